import Derived.Test.YtbnpabpkaebojaaMx12T
import Derived.Deep.Cut
import Derived.Deep.CutRange
import Derived.Deep.CutBlock
import Derived.Deep.RegionLaw
/- MapsExact of layer 12: the walk: it returns true for every input and writes nothing that was there. -/
set_option linter.unusedVariables false
namespace Go.Proofs.Ytbnpabpkaebojaa
open Go.RowKit

/-- A slice of deeds that came in: it has no element; or it leads to its elements' cells. -/
def IsActs12 (w : World) (a : Option Addr) (len : Nat) : Prop :=
  len = 0 ∨ ∃ b off, a = some ⟨b, off, none⟩ ∧ b < w.heap.size ∧ len ≤ maxLen ∧ ∀ i, i < len → ∃ (kd at' ch : Int), (Lit.int .i64 kd).wf = true ∧ (Lit.int .i64 at').wf = true ∧ (Lit.int .i64 ch).wf = true ∧
    w.cell? ⟨b, off + i * 3, none⟩ = some (.int .i64 kd) ∧ w.cell? ⟨b, off + i * 3 + 1, none⟩ = some (.int .i64 at') ∧ w.cell? ⟨b, off + i * 3 + 2, none⟩ = some (.int .i64 ch)
theorem IsActs12.len_le {w : World} {a : Option Addr} {len : Nat} (h : IsActs12 w a len) : len ≤ maxLen := by
  rcases h with rfl | ⟨b, off, _, _, h, _⟩
  · exact Nat.zero_le _
  · exact h
/-- A deed, boxed. -/
def BoxA12 (y : Nat) (kd at' ch : Int) (W : World) : Prop := W.heap[y]? = some (.cells #[.int .i64 kd, .int .i64 at', .int .i64 ch] 61 (0, 0))
section
variable {y : Nat} {kd at' ch : Int} {W W' : World}
theorem BoxA12.c0 (h : BoxA12 y kd at' ch W) : W.cell? ⟨y, 0, none⟩ = some (.int .i64 kd) := by simp [World.cell?, show W.heap[y]? = _ from h]
theorem BoxA12.c1 (h : BoxA12 y kd at' ch W) : W.cell? ⟨y, 1, none⟩ = some (.int .i64 at') := by simp [World.cell?, show W.heap[y]? = _ from h]
theorem BoxA12.c2 (h : BoxA12 y kd at' ch W) : W.cell? ⟨y, 2, none⟩ = some (.int .i64 ch) := by simp [World.cell?, show W.heap[y]? = _ from h]
theorem BoxA12.lt (h : BoxA12 y kd at' ch W) : y < W.heap.size := (Array.getElem?_eq_some_iff.1 h).1
theorem BoxA12.kept {X : Nat → Prop} (h : BoxA12 y kd at' ch W) (hk : KeptIn X W W') (hX : X y) : BoxA12 y kd at' ch W' := (hk.block y hX).trans h
end

/-- What stands between the deeds. -/
def Me (w3 : World) (s u B j root : Nat) (qs : Pairs) (N : List Nd) (D : Nat → Prop) (H : List (Nat × Pairs)) (v1 v2 : Value) (W : World) : Prop :=
  Mx w3 s u B (6 * j) (fun _ => False) N D H v1 v2 (rowU qs) W ∧ TrI N root qs (8 + j) ∧ GoodM qs ∧ qs.length ≤ j ∧ H.length ≤ j
/-- What stands within a deed, ahead of its switch. -/
def Mw (w3 : World) (s u B j root : Nat) (qs : Pairs) (N : List Nd) (D : Nat → Prop) (H : List (Nat × Pairs)) (v1 v2 : Value) (y g : Nat) (kd at' ch : Int) (W : World) : Prop :=
  Mx w3 s u B (6 * j) (fun k => (False ∨ k = y) ∨ k = g) N D H v1 v2 (rowU qs) W ∧ (TrI N root qs (8 + j) ∧ GoodM qs ∧ qs.length ≤ j ∧ H.length ≤ j) ∧ RowM g (rowU qs) W ∧ BoxA12 y kd at' ch W ∧ y ≠ g

/-- What a deed's switch leaves. -/
def Cx (w3 : World) (s u B j root g : Nat) (qs : Pairs) (N : List Nd) (D : Nat → Prop) (H : List (Nat × Pairs)) (v1 v2 : Value) (r e b : Value) (W : World) : Prop :=
  (b = .bool true ∧ e = .int .i64 1 ∧ r = .int .i64 0 ∧ Me w3 s u B (j + 1) root qs N D H v1 v2 W) ∨
  (∃ (rr : Nat) (qs2 : Pairs) (N2 : List Nd) (D2 : Nat → Prop), b = .bool false ∧ e = .int .i64 0 ∧ r = .int .i64 (rr : Int) ∧ Mx w3 s u B (6 * (j + 1)) (fun k => k = g) N2 D2 H v1 v2 (rowU qs) W ∧ RowM g (rowU qs2) W ∧ TrI N2 rr qs2 (8 + (j + 1)) ∧ GoodM qs2 ∧ qs2.length ≤ j + 1 ∧ H.length ≤ j)
section
variable {w3 W W' : World} {s u B j root y g : Nat} {qs : Pairs} {N : List Nd} {D : Nat → Prop} {H : List (Nat × Pairs)} {v1 v2 : Value} {kd at' ch : Int}
theorem Mw.bad (h : Mw w3 s u B j root qs N D H v1 v2 y g kd at' ch W) (hk : KeptIn (· < W.heap.size) W W') : Cx w3 s u B j root g qs N D H v1 v2 (.int .i64 0) (.int .i64 1) (.bool true) W' :=
  .inl ⟨rfl, rfl, rfl, ((h.1.old hk).drop fun k hk => hk.elim).mono (by omega), h.2.1.1.mono (by omega), h.2.1.2.1, by have := h.2.1.2.2.1; omega, by have := h.2.1.2.2.2; omega⟩
theorem Mw.keep (h : Mw w3 s u B j root qs N D H v1 v2 y g kd at' ch W) (hf : Fr8 s W W') : RowM g (rowU qs) W' ∧ BoxA12 y kd at' ch W' :=
  ⟨h.2.2.1.kept (hf.block g ⟨h.2.2.1.lt, h.1.ne (.inr rfl)⟩), h.2.2.2.1.kept hf ⟨h.2.2.2.1.lt, h.1.ne (.inl (.inr rfl))⟩⟩
theorem Mw.fin (h : Mw w3 s u B j root qs N D H v1 v2 y g kd at' ch W) {qs2 : Pairs} {r k v : Nat} {V V' : World} (hc : ChX s N (8 + (j + 1)) D qs2 W r V) (hrow : (rowU qs).set k v = rowU qs2) (hg : GoodM qs2) (hl : qs2.length ≤ j + 1) (hk : KeptIn (· ≠ g) V V') (hr : RowM g ((rowU qs).set k v) V') :
    Cx w3 s u B j root g qs N D H v1 v2 (.int .i64 (r : Int)) (.int .i64 0) (.bool false) V' := by
  obtain ⟨N2, D2, m1, m2⟩ := h.1.chx hc
  rw [hrow] at hr
  exact .inr ⟨r, qs2, N2, D2, rfl, rfl, rfl, ((m1.storeE (.inr rfl) hk).drop fun k hk => .inr hk).mono (by omega), hr, m2, hg, hl, h.2.1.2.2.2⟩
end

/-- What stands in the loop that trims the document's row. -/
def Lp (w3 : World) (s u B n y g gg : Nat) (qs : Pairs) (N : List Nd) (D : Nat → Prop) (H : List (Nat × Pairs)) (v1 v2 : Value) (al : Option Addr) (es : Ents) (z k : Nat) (W : World) : Prop :=
  Mx w3 s u B n (fun k => ((False ∨ k = y) ∨ k = g) ∨ k = gg) N D H v1 v2 (rowU qs) W ∧ RowM g (lwM qs z k) W ∧ RowM gg (lgM qs z k) W ∧ IsEs W al es ∧ (∀ p, al = some p → p.block ≠ g ∧ p.block ≠ gg) ∧ g ≠ gg
section
variable {w3 : World} {s u B n y g gg : Nat} {qs : Pairs} {N : List Nd} {D : Nat → Prop} {H : List (Nat × Pairs)} {v1 v2 : Value} {al : Option Addr} {es : Ents} {z k : Nat}
theorem Lp.step {U : World} (h : Lp w3 s u B n y g gg qs N D H v1 v2 al es z k U) (hz : z ≤ k) (hk : k < 64) : Lp w3 s u B n y g gg qs N D H v1 v2 al es z (k + 1) ((U.setCell ⟨gg, k, none⟩ (iv (lookM qs k))).setCell ⟨g, k, none⟩ (iv 0)) := by
  obtain ⟨h1, h2, h3, h4, h5, h6⟩ := h
  have k1 : KeptIn (· ≠ gg) U (U.setCell ⟨gg, k, none⟩ (iv (lookM qs k))) := (KeptIn.refl _ U).setCell (p := ⟨gg, k, none⟩) (by simp) _
  have k2 : KeptIn (· ≠ g) (U.setCell ⟨gg, k, none⟩ (iv (lookM qs k))) ((U.setCell ⟨gg, k, none⟩ (iv (lookM qs k))).setCell ⟨g, k, none⟩ (iv 0)) := (KeptIn.refl _ _).setCell (p := ⟨g, k, none⟩) (by simp) _
  refine ⟨(h1.storeE (.inr rfl) k1).storeE (.inl (.inr rfl)) k2, ?_, ?_, esAt (esAt h4 k1 fun p e => (h5 p e).2) k2 fun p e => (h5 p e).1, h5, h6⟩
  · rw [← lwM_set qs hz hk]
    exact (h2.kept (k1.block g h6)).set k 0
  · rw [← lgM_set qs hz hk]
    exact (h3.set k (lookM qs k)).kept (k2.block gg (fun e => h6 e.symm))
theorem lp_zero {V X X' : World} (h : Mx w3 s u B n (fun k => (False ∨ k = y) ∨ k = g) N D H v1 v2 (rowU qs) V) (hr : RowM g (rowU qs) V) (hes : IsEs V al es) (hal : ∀ p, al = some p → p.block < V.heap.size ∧ p.block ≠ g) (hk : KeptIn (· < V.heap.size) V X) (hz : X.heap.size = V.heap.size + 1) (hgg : V.heap.size = gg) (hr2 : RowM gg zerosM X') (hk2 : KeptIn (· ≠ gg) X X') :
    Lp w3 s u B n y g gg qs N D H v1 v2 al es z z X' := by
  have hm := h.new hk hz
  rw [hgg] at hm
  have hg : g ≠ gg := by have := hr.lt; omega
  refine ⟨hm.storeE (.inr rfl) hk2, ?_, by rw [lgM_zero]; exact hr2, esAt (hes.old hk) hk2 fun p e => ?_, fun p e => ⟨(hal p e).2, ?_⟩, hg⟩
  · rw [lwM_zero]
    exact (hr.kept (hk.block g hr.lt)).kept (hk2.block g hg)
  · have := (hal p e).1
    omega
  · have := (hal p e).1
    omega
theorem Mw.old {j root : Nat} {kd at' ch : Int} {W W' : World} (h : Mw w3 s u B j root qs N D H v1 v2 y g kd at' ch W) (hk : KeptIn (· < W.heap.size) W W') : Mw w3 s u B j root qs N D H v1 v2 y g kd at' ch W' :=
  ⟨h.1.old hk, h.2.1, h.2.2.1.kept (hk.block g h.2.2.1.lt), h.2.2.2.1.kept hk h.2.2.2.1.lt, h.2.2.2.2⟩
end


attribute [local go_sem high] run_max2f rowV_cells in
set_option maxHeartbeats 16000000 in
set_option maxRecDepth 100000 in
theorem exaW12 (a : Option Addr) (len cap : Nat) (w : World) (w0 : IsActs12 w a len) :
    Calls Try.prog 6 #[.slice a len cap] w fun e w' => e = .returned (.bool true) ∧ KeptIn (· < w.heap.size) w w' := by
  have l0 := w0.len_le
  unfold maxLen at l0
  have b0 : (len : Int) ≤ 9223372036854775807 := by omega
  have W0 := Lib.hid w0
  clear w0 l0
  go_enter Try.func6, Try.ntmps6
  go_wp2_with fail
  refine (awake12 w).mono ?_
  rintro e w3 ⟨rfl, k3⟩
  obtain ⟨s, hs⟩ : ∃ s, w3.heap.size = s := ⟨_, rfl⟩
  obtain ⟨W1, hW1⟩ : ∃ W1, w3.alloc (.cells #[.slice none 0 0, .int .i64 511] 30) = W1 := ⟨_, rfl⟩
  have hz1 : W1.heap.size = s + 1 := by rw [← hW1, World.size_alloc, hs]
  have HW := Lib.hid (And.intro hW1 (And.intro hs hz1))
  have HK3 := Lib.hid k3
  clear hW1 hs hz1 k3
  go_upto_region 5 with fail
  rw [HW.out.1]
  simp only [HW.out.2.1]
  obtain ⟨u, hu⟩ : ∃ u, W1.heap.size = u := ⟨_, rfl⟩
  have HU := Lib.hid hu
  go_wp2_with (first | (refine wpList_build_row12 rfl rfl ?_) | (refine wpList_alloc_row12 rfl rfl ?_))
  intro X2 hr2 hk2 hz2
  clear hu
  have HR2 := Lib.hid (And.intro hr2 (And.intro hk2 hz2))
  clear hr2 hk2 hz2
  go_wp2_with (refine wpList_store_row12 rfl _ _ rfl u zerosM zerosM rfl rfl zerosM_length zerosM_length HR2.out.1 ?_)
  intro X3 hr3 hk3 hz3
  obtain ⟨B, hB⟩ : ∃ B, X3.heap.size = B := ⟨_, rfl⟩
  obtain ⟨W, hW⟩ : ∃ W, (X3.alloc (.cells #[] 3)).alloc (.cells #[] 58) = W := ⟨_, rfl⟩
  have HI0 : Hid (Me w3 s u B 0 0 [] [] (fun k => k = s) [] (.slice (some ⟨B, 0, none⟩) 0 0) (.slice (some ⟨B + 1, 0, none⟩) 0 0) W) := Lib.hid (by
    have hus : u = s + 1 := HU.out.symm.trans HW.out.2.2
    have hBs : B = s + 2 := by rw [← hB, hz3, HR2.out.2.2, hus]
    subst hus
    subst hBs
    have h2 := HR2.out.2.1
    rw [← HW.out.2.2] at h2
    exact ⟨by rw [← zerosM_row]; exact mx_zero w3 W1 X2 X3 W s HW.out.2.1 HW.out.1.symm HR2.out.1 h2 HR2.out.2.2 hr3 hk3 hz3 hW.symm, TrI.zero, goodM_nil, Nat.le_refl _, Nat.le_refl _⟩)
  have HW3 := Lib.hid (And.intro hW hB)
  clear hr3 hk3 hz3 hB hW HR2 HU HW
  go_wp2_with fail
  rw [HW3.out.1]
  simp only [HW3.out.2]
  clear HW3
  go_loopw [4, 6, 7, 8, 9, 10, 11, 12, 13, 14, 15, 16, 17, 18, 19] (fun r p q i _ _ _ _ _ _ _ _ _ _ _ wr => ∃ (j root : Nat) (V : World) (qs : Pairs) (N : List Nd) (D : Nat → Prop) (H : List (Nat × Pairs)) (v1 v2 : Value), V = wr ∧ v1 = p ∧ v2 = q ∧ j ≤ len ∧ j ≤ 40 ∧ i = .int .i64 (j : Int) ∧ r = .int .i64 (root : Int) ∧ Hid (Me w3 s u B j root qs N D H v1 v2 V)) (fun _ _ _ i _ _ _ _ _ _ _ _ _ _ _ _ => 40 - (intOf i).toNat)
  case atStart => exact ⟨0, 0, _, _, _, _, _, _, _, rfl, rfl, rfl, Nat.zero_le _, Nat.zero_le _, rfl, rfl, HI0⟩
  case round =>
    obtain ⟨j, root, V, qs, N, D, H, v1, v2, rfl, rfl, rfl, hj, hj1, rfl, rfl, HJ⟩ := hrel
    clear HI0
    have d0 : (0 : Int) ≤ (j : Int) := by omega
    by_cases hlt : j < len
    · have d1 : (j : Int) < (len : Int) := by omega
      by_cases hlt1 : j < 40
      · have d2 : (j : Int) < 40 := by omega
        obtain ⟨b, off, rfl, hb, _, hel⟩ : ∃ b off, a = some ⟨b, off, none⟩ ∧ b < w.heap.size ∧ len ≤ maxLen ∧ _ := W0.out.resolve_left (by omega)
        obtain ⟨kd, at', ch, wk, wa, wc, e0, e1, e2⟩ := hel j hlt
        have hkw : KeptIn (· < w.heap.size) w V := HK3.out.go HJ.out.1.kept
        have g0 := (World.cell?_of_block (hkw.block b hb)).trans e0
        have g1 := (World.cell?_of_block (hkw.block b hb)).trans e1
        have g2 := (World.cell?_of_block (hkw.block b hb)).trans e2
        have bk := bounds_i64 wk
        have ba := bounds_i64 wa
        have bc := bounds_i64 wc
        have HP := Lib.hid fun W => r12Place at' W
        obtain ⟨bd, hbd⟩ : ∃ bd, decide (0 ≤ at' ∧ at' < 64) = bd := ⟨_, rfl⟩
        rw [hbd] at HP
        have HBD := Lib.hid hbd
        clear e0 e1 e2 hel wk wa wc hkw hbd
        go_upto_region 15 with (first | (go_at_call 18; refine (HP.out _).mono ?_; rintro e V' ⟨rfl, rfl⟩))
        clear g0 g1 g2
        obtain ⟨y, hy⟩ : ∃ y, V.heap.size = y := ⟨_, rfl⟩
        obtain ⟨W5, hW5⟩ : ∃ W5, V.alloc (.cells #[.int .i64 kd, .int .i64 at', .int .i64 ch] 61) = W5 := ⟨_, rfl⟩
        rw [hW5]
        simp only [hy]
        have hA5 : BoxA12 y kd at' ch W5 := by rw [← hW5, ← hy]; exact heap_alloc_new V _
        have hk5 : KeptIn (· < V.heap.size) V W5 := by rw [← hW5]; exact (KeptIn.refl _ V).alloc (fun _ h => h) _
        have hz5 : W5.heap.size = V.heap.size + 1 := by rw [← hW5, World.size_alloc]
        obtain ⟨g, hg⟩ : ∃ g, W5.heap.size = g := ⟨_, rfl⟩
        have H5 := Lib.hid (And.intro (HJ.out.1.new hk5 hz5) (And.intro HJ.out.2 (And.intro hA5 (And.intro hy (And.intro hg hz5)))))
        have HRU := Lib.hid (HJ.out.1.old hk5).row
        clear hA5 hk5 hz5 hW5 HJ hy
        go_wp2_with (first | (refine wpList_load_row12 rfl _ rfl u (rowU qs) rfl (rowU_length qs) HRU.out ?_) | (refine wpList_alloc_row12 rfl rfl ?_))
        intro W6 hr6 hk6 hz6
        clear hg
        have HR6 := Lib.hid (And.intro hr6 (And.intro hk6 hz6))
        clear hr6 hk6 hz6
        go_wp2_with (refine wpList_store_row12 rfl _ _ rfl g (rowU qs) zerosM rfl rfl (rowU_length qs) zerosM_length HR6.out.1 ?_)
        intro W7 hr7 hk7 hz7
        have HM : Hid (Mw w3 s u B j root qs N D H v1 v2 y g kd at' ch W7) := Lib.hid (by
          obtain ⟨m1, m2, m3, m4, m5, m6⟩ := H5.out
          have hk6 : KeptIn (· < W5.heap.size) W5 W6 := by rw [m5]; exact HR6.out.2.1
          have hyg : y ≠ g := by omega
          have hm := m1.new hk6 (by rw [HR6.out.2.2, m5])
          rw [m4, m5] at hm
          exact ⟨hm.storeE (.inr rfl) hk7, m2, hr7, (m3.kept hk6 m3.lt).kept hk7 hyg, hyg⟩)
        clear H5 HR6 hr7 hk7 hz7 HRU HP
        have p0 := HM.out.2.2.2.1.c0
        have p1 := HM.out.2.2.2.1.c1
        have p2 := HM.out.2.2.2.1.c2
        go_upto_block 2 with fail
        go_cut [10, 11, 12, 14, 15, 16] from 51 to 139 (fun r e b _ _ _ wx => ∃ V' : World, V' = wx ∧ Hid (Cx w3 s u B j root g qs N D H v1 v2 r e b V'))
        case first =>
          by_cases k4 : kd = 4
          · subst k4
            by_cases hp : 0 ≤ at' ∧ at' < 64
            · as_aux_lemma => -- M:A1
                obtain rfl : bd = true := HBD.out.symm.trans (decide_eq_true hp)
                obtain ⟨k, rfl⟩ : ∃ k : Nat, at' = (k : Int) := ⟨at'.toNat, by omega⟩
                have hk64 : k < 64 := by omega
                have k1 : (0 : Int) ≤ (k : Int) := by omega
                have k2 : (k : Int) < 64 := by omega
                have hD := hsDrop (k := k) HM.out.1.sh HM.out.2.1.1 (by have := HM.out.1.nl; omega) (by omega)
                have HC := Lib.hid (maClearG hk64 (hD.mono fun e w' ⟨r, b, h1, h2⟩ => (⟨r, b, h1, ChR.x h2⟩ : ∃ (r : Nat) (b : Bool), e = .returned (.tuple #[.int .i64 (r : Int), .bool b, .int .i64 0]) ∧ ChX s N (8 + j + 1) D (chg [] k qs) W7 r w')))
                unfold pgV at HC
                clear hD hp
                go_wp2_with fail
                refine HC.out.mono ?_
                rintro e V8 ⟨r, rfl, hc⟩
                have hkp := HM.out.keep hc.fr
                have f1 : V8.cell? ⟨g, k, none⟩ = some (iv (lookM qs k)) := hkp.1.cell k (rowU_at qs hk64)
                have f2 := hkp.1.fro k
                have q1 := hkp.2.c1
                have q2 := hkp.2.c2
                have HF : Hid (Cx w3 s u B j root g qs N D H v1 v2 (.int .i64 (r : Int)) (.int .i64 0) (.bool false) (V8.setCell ⟨g, k, none⟩ (iv 0))) := Lib.hid (HM.out.fin hc (rowU_drop (HM.out.1.tr HM.out.2.1.1).m.srt (srt_drp (HM.out.1.tr HM.out.2.1.1).m.srt)) (goodM_drop HM.out.2.1.2.1) (Nat.le_trans (len_drp _ _) (by have := HM.out.2.1.2.2.1; omega)) ((KeptIn.refl _ V8).setCell (p := ⟨g, k, none⟩) (by simp) _) (hkp.1.set k 0))
                unfold iv at HF
                clear hc hkp HC p0 p1 p2
                go_wp2_with fail
                go_meet
                case rel => exact ⟨_, rfl, HF⟩
            · as_aux_lemma => -- M:A2
                obtain rfl : bd = false := HBD.out.symm.trans (decide_eq_false hp)
                have HC := Lib.hid fun W => maClearBad (W := W) s root at' hp
                have HF := Lib.hid (HM.out.bad (KeptIn.refl _ W7))
                unfold pgV at HC
                clear hp
                go_wp2_with fail
                refine (HC.out _).mono ?_
                rintro e V8 ⟨rfl, rfl⟩
                clear HC
                go_wp2_with fail
                go_meet
                case rel => exact ⟨_, rfl, HF⟩
          · by_cases k5 : kd = 5
            · subst k5
              obtain ⟨W8, hW8⟩ : ∃ W8, W7.alloc (.cells #[] 74) = W8 := ⟨_, rfl⟩
              have HM8 := Lib.hid (HM.out.old (W' := W8) (by rw [← hW8]; exact (KeptIn.refl _ W7).alloc (fun _ h => h) _))
              have hz8 : W7.heap.size ≤ W8.heap.size := by rw [← hW8, World.size_alloc]; omega
              have HW8 := Lib.hid (And.intro hW8 hz8)
              clear hW8 hz8
              by_cases hz : 0 ≤ at'
              · as_aux_lemma => -- M:B1
                  have z1 : ¬ at' < 0 := by omega
                  obtain ⟨z, hzz⟩ : ∃ z : Nat, at'.toNat = z := ⟨_, rfl⟩
                  have hmx : max at' 0 = (z : Int) := by omega
                  have HMX := Lib.hid hmx
                  obtain ⟨n1, hn1⟩ : ∃ n1, belowK qs at'.toNat = n1 := ⟨_, rfl⟩
                  have hT := maTrimG (P := fun r w' => ChX s N (8 + (j + 1)) D (qs.take n1) W8 r w') (HM8.out.1.tr HM8.out.2.1.1) HM8.out.2.1.2.1 (by have := HM8.out.2.1.2.2.1; omega) at' hz
                    (fun r V q h => h.old ((KeptIn.refl _ _).drewN q))
                    (fun hall V hk => by
                      rw [show qs.take n1 = qs by rw [← hn1, hall, List.take_length]]
                      exact ChX.same HM8.out.1.sh (HM8.out.2.1.1.mono (by omega)) hk)
                    (fun V a2 c2 hk hlk hri => by
                      rw [hn1] at hlk hri ⊢
                      have hlt : (qs.take n1).length ≤ j := by rw [List.length_take]; have := HM8.out.2.1.2.2.1; omega
                      exact (hsBuild (f := 8 + (j + 1)) (HM8.out.1.sh.old hk) (by have := HM8.out.1.nl; omega) c2 a2 (qs.take n1) hlk (by omega) hri (by omega)).mono fun e w' ⟨r, h1, h2, h3⟩ => ⟨r, h1, h2, h3.from hk⟩)
                  rw [hn1] at hT
                  have HC := Lib.hid hT
                  have HSQ := Lib.hid (HM8.out.1.tr HM8.out.2.1.1).m.srt
                  have HZ : Hid (GoodM qs ∧ belowK qs z = n1) := Lib.hid ⟨HM8.out.2.1.2.1, by rw [← hzz]; exact hn1⟩
                  have HQL := Lib.hid HM8.out.2.1.2.2.1
                  unfold pgV at HC
                  have q0 := HM8.out.2.2.2.1.c1
                  rw [← HW8.out.1] at q0
                  clear hT hn1 hzz hmx
                  go_wp2_with fail
                  rw [HW8.out.1]
                  clear q0
                  refine HC.out.mono ?_
                  rintro e V8 ⟨r, m, c, al, rfl, hm, hls, hge, hc⟩
                  have HMM := Lib.hid hm
                  obtain ⟨N2, D2, m1, m2⟩ := HM8.out.1.chx hc
                  have hkp := HM8.out.keep hc.fr
                  have H8 := Lib.hid (And.intro m1 (And.intro hkp.1 (And.intro hkp.2 (And.intro hls.1 (fun p (e : al = some p) => And.intro (hls.2 p e).2 (show p.block ≠ g by have := hge p e; have := HM8.out.2.2.1.lt; omega))))))
                  have HTR := Lib.hid m2
                  clear hm hls hge hc m1 m2 hkp HC hz
                  obtain ⟨gg, hgg⟩ : ∃ gg, V8.heap.size = gg := ⟨_, rfl⟩
                  have HGG := Lib.hid hgg
                  go_wp2_with (first | (refine wpList_build_row12 rfl rfl ?_) | (refine wpList_alloc_row12 rfl rfl ?_))
                  intro X9 hr9 hk9 hz9
                  clear hgg
                  have HR9 := Lib.hid (And.intro hr9 (And.intro hk9 hz9))
                  clear hr9 hk9 hz9
                  go_wp2_with (refine wpList_store_row12 rfl _ _ rfl gg zerosM zerosM rfl rfl zerosM_length zerosM_length HR9.out.1 ?_)
                  intro X10 hr10 hk10 hz10
                  have HL0 : Hid (Lp w3 s u B (6 * j + 6) y g gg qs N2 D2 H v1 v2 al (esOf (qs.drop n1)) z z X10 ∧ BoxA12 y 5 at' ch X10) := Lib.hid (by
                    have h9 := HR9.out.2.1
                    rw [← HGG.out] at h9
                    have hyg : y ≠ gg := by have := H8.out.2.2.1.lt; have := HGG.out; omega
                    exact ⟨lp_zero H8.out.1 H8.out.2.1 H8.out.2.2.2.1 H8.out.2.2.2.2 h9 (by rw [HR9.out.2.2, HGG.out]) HGG.out hr10 hk10, (H8.out.2.2.1.kept h9 H8.out.2.2.1.lt).kept hk10 hyg⟩)
                  have q1 := HL0.out.2.c1
                  clear hr10 hk10 hz10 HR9 HGG H8 p0 p1 p2
                  go_wp2_with fail
                  try rw [HMX.out]
                  have HL1 := Lib.hid HL0.out.1
                  clear HL0 q1
                  go_loopw [16] (fun i wr => ∃ (k : Nat) (U : World), U = wr ∧ z ≤ k ∧ i = .int .i64 (k : Int) ∧ Hid (Lp w3 s u B (6 * j + 6) y g gg qs N2 D2 H v1 v2 al (esOf (qs.drop n1)) z k U)) (fun i _ => 64 - (intOf i).toNat)
                  case atStart => exact ⟨z, _, rfl, Nat.le_refl _, rfl, HL1⟩
                  case round =>
                    obtain ⟨k, U, rfl, hzk, rfl, HL⟩ := hrel
                    clear HL1
                    have k1 : (0 : Int) ≤ (k : Int) := by omega
                    by_cases hk64 : k < 64
                    · have k2 : (k : Int) < 64 := by omega
                      obtain ⟨h1, h2, h3, h4, h5, h6⟩ := HL.out
                      have f0 : U.cell? ⟨u, k, none⟩ = some (iv (lookM qs k)) := h1.row.cell k (rowU_at qs hk64)
                      have f1 : U.cell? ⟨gg, k, none⟩ = some (iv (if z ≤ k ∧ k < k then lookM qs k else 0)) := h3.cell k (lgM_at qs z k hk64)
                      have f2 := h3.fro k
                      have f3 : U.cell? ⟨g, k, none⟩ = some (iv (if z ≤ k ∧ k < k then 0 else lookM qs k)) := h2.cell k (lwM_at qs z k hk64)
                      have f4 := h2.fro k
                      have k3 : KeptIn (· ≠ gg) U (U.setCell ⟨gg, k, none⟩ (iv (lookM qs k))) := (KeptIn.refl _ U).setCell (p := ⟨gg, k, none⟩) (by simp) _
                      have f5 := (World.cell?_of_block (a := ⟨g, k, none⟩) (k3.block g h6)).trans f3
                      have f6 := (World.frozen?_of_block (a := ⟨g, k, none⟩) (k3.block g h6)).trans f4
                      have HS := Lib.hid (HL.out.step hzk hk64)
                      obtain ⟨x1, hx1⟩ : ∃ x1, (if z ≤ k ∧ k < k then lookM qs k else 0) = x1 := ⟨_, rfl⟩
                      obtain ⟨x2, hx2⟩ : ∃ x2, (if z ≤ k ∧ k < k then 0 else lookM qs k) = x2 := ⟨_, rfl⟩
                      rw [hx1] at f1
                      rw [hx2] at f3 f5
                      obtain ⟨x0, hx0⟩ : ∃ x0, lookM qs k = x0 := ⟨_, rfl⟩
                      rw [hx0] at f0 f5 f6 HS
                      unfold iv at f0 f1 f3 f5 f6 HS
                      clear h1 h2 h3 h4 h5 h6 k3 hx0 hx1 hx2 HL f3 f4
                      go_wp2_with fail
                      go_roundw
                      case rel => exact ⟨k + 1, _, rfl, by omega, by go_num, HS⟩
                      case measure => simp only [intOf]; omega
                    · have k2 : ¬ (k : Int) < 64 := by omega
                      have h64 : 64 ≤ k := by omega
                      have HA := Lib.hid (by
                        have hl := HL.out
                        unfold Lp at hl
                        rw [lwM_end HSQ.out h64, lgM_end HSQ.out h64, HZ.out.2] at hl
                        exact hl)
                      have hsame := fun V' (hk : KeptIn (· < U.heap.size) U V') => maSame al c (qs.drop n1) (srt_drop HSQ.out n1) (HZ.out.1.sub fun p hp => List.mem_of_mem_drop hp) V' (HA.out.2.2.2.1.old hk) (by rw [List.length_drop]; have := HQL.out; omega)
                      rw [← HMM.out] at hsame
                      have HSM := Lib.hid (hsame _ (KeptIn.refl _ _))
                      have HF : Hid (∀ V', KeptIn (· < U.heap.size) U V' → Cx w3 s u B j root g qs N D H v1 v2 (.int .i64 (r : Int)) (.int .i64 0) (.bool false) V') := Lib.hid fun V' hk => .inr ⟨r, qs.take n1, N2, D2, rfl, rfl, rfl, ((HA.out.1.old hk).drop fun k hk => .inl (.inr hk)).mono (by omega), HA.out.2.1.kept (hk.block g HA.out.2.1.lt), HTR.out, HZ.out.1.sub (fun p hp => List.mem_of_mem_take hp), by rw [List.length_take]; have := HQL.out; omega, HM.out.2.1.2.2.2⟩
                      clear hsame HL hzk hk64 h64
                      go_wp2_with (first
                        | (refine wpList_load_row12g _ rfl (by rfl) gg (rowU (qs.drop n1)) rfl (rowU_length _) HA.out.2.2.1 ?_)
                        | (go_at_call 21; refine HSM.out.mono ?_; rintro e V5 ⟨rfl, hk5⟩; have HE5 := Lib.hid (HF.out _ hk5); clear hk5))
                      go_meet
                      case rel => exact ⟨_, rfl, HE5⟩
              · as_aux_lemma => -- M:B2
                  have z1 : at' < 0 := by omega
                  obtain ⟨z, hzz⟩ : ∃ z : Nat, 0 = z := ⟨_, rfl⟩
                  have hmx : max at' 0 = (z : Int) := by omega
                  have HMX := Lib.hid hmx
                  have HC := Lib.hid fun W => maTrimBad (W := W) s root at' z1
                  obtain ⟨V8, hV8⟩ : ∃ V8, W8 = V8 := ⟨_, rfl⟩
                  obtain ⟨al, hal⟩ : ∃ al : Option Addr, none = al := ⟨_, rfl⟩
                  obtain ⟨N2, hN2⟩ : ∃ N2, N = N2 := ⟨_, rfl⟩
                  obtain ⟨D2, hD2⟩ : ∃ D2, D = D2 := ⟨_, rfl⟩
                  have H8 : Hid (Mx w3 s u B (6 * j + 6) (fun k => (False ∨ k = y) ∨ k = g) N2 D2 H v1 v2 (rowU qs) V8 ∧ RowM g (rowU qs) V8 ∧ BoxA12 y 5 at' ch V8 ∧ IsEs V8 al [] ∧ ∀ p, al = some p → p.block < V8.heap.size ∧ p.block ≠ g) := Lib.hid (by
                    subst hV8 hN2 hD2 hal
                    exact ⟨HM8.out.1.mono (by omega), HM8.out.2.2.1, HM8.out.2.2.2.1, IsEs.nil _ _, (fun p e => by cases e)⟩)
                  have HW9 := Lib.hid (HW8.out.1.trans hV8)
                  have HND := Lib.hid (And.intro hN2 hD2)
                  unfold pgV at HC
                  have q0 := H8.out.2.2.1.c1
                  rw [← HW9.out] at q0
                  clear hzz hmx hz hV8 hal hN2 hD2
                  go_wp2_with fail
                  rw [HW9.out]
                  clear q0
                  refine (HC.out _).mono ?_
                  rintro e V9 ⟨rfl, hv9⟩
                  rw [hv9]
                  clear hv9 V9 HC
                  obtain ⟨gg, hgg⟩ : ∃ gg, V8.heap.size = gg := ⟨_, rfl⟩
                  have HGG := Lib.hid hgg
                  go_wp2_with (first | (refine wpList_build_row12 rfl rfl ?_) | (refine wpList_alloc_row12 rfl rfl ?_))
                  intro X9 hr9 hk9 hz9
                  clear hgg
                  have HR9 := Lib.hid (And.intro hr9 (And.intro hk9 hz9))
                  clear hr9 hk9 hz9
                  go_wp2_with (refine wpList_store_row12 rfl _ _ rfl gg zerosM zerosM rfl rfl zerosM_length zerosM_length HR9.out.1 ?_)
                  intro X10 hr10 hk10 hz10
                  have HL0 : Hid (Lp w3 s u B (6 * j + 6) y g gg qs N2 D2 H v1 v2 al [] z z X10 ∧ BoxA12 y 5 at' ch X10) := Lib.hid (by
                    have h9 := HR9.out.2.1
                    rw [← HGG.out] at h9
                    have hyg : y ≠ gg := by have := H8.out.2.2.1.lt; have := HGG.out; omega
                    exact ⟨lp_zero H8.out.1 H8.out.2.1 H8.out.2.2.2.1 H8.out.2.2.2.2 h9 (by rw [HR9.out.2.2, HGG.out]) HGG.out hr10 hk10, (H8.out.2.2.1.kept h9 H8.out.2.2.1.lt).kept hk10 hyg⟩)
                  have q1 := HL0.out.2.c1
                  clear hr10 hk10 hz10 HR9 HGG H8 p0 p1 p2
                  go_wp2_with fail
                  try rw [HMX.out]
                  have HL1 := Lib.hid HL0.out.1
                  clear HL0 q1
                  go_loopw [16] (fun i wr => ∃ (k : Nat) (U : World), U = wr ∧ z ≤ k ∧ i = .int .i64 (k : Int) ∧ Hid (Lp w3 s u B (6 * j + 6) y g gg qs N2 D2 H v1 v2 al [] z k U)) (fun i _ => 64 - (intOf i).toNat)
                  case atStart => exact ⟨z, _, rfl, Nat.le_refl _, rfl, HL1⟩
                  case round =>
                    obtain ⟨k, U, rfl, hzk, rfl, HL⟩ := hrel
                    clear HL1
                    have k1 : (0 : Int) ≤ (k : Int) := by omega
                    by_cases hk64 : k < 64
                    · have k2 : (k : Int) < 64 := by omega
                      obtain ⟨h1, h2, h3, h4, h5, h6⟩ := HL.out
                      have f0 : U.cell? ⟨u, k, none⟩ = some (iv (lookM qs k)) := h1.row.cell k (rowU_at qs hk64)
                      have f1 : U.cell? ⟨gg, k, none⟩ = some (iv (if z ≤ k ∧ k < k then lookM qs k else 0)) := h3.cell k (lgM_at qs z k hk64)
                      have f2 := h3.fro k
                      have f3 : U.cell? ⟨g, k, none⟩ = some (iv (if z ≤ k ∧ k < k then 0 else lookM qs k)) := h2.cell k (lwM_at qs z k hk64)
                      have f4 := h2.fro k
                      have k3 : KeptIn (· ≠ gg) U (U.setCell ⟨gg, k, none⟩ (iv (lookM qs k))) := (KeptIn.refl _ U).setCell (p := ⟨gg, k, none⟩) (by simp) _
                      have f5 := (World.cell?_of_block (a := ⟨g, k, none⟩) (k3.block g h6)).trans f3
                      have f6 := (World.frozen?_of_block (a := ⟨g, k, none⟩) (k3.block g h6)).trans f4
                      have HS := Lib.hid (HL.out.step hzk hk64)
                      obtain ⟨x1, hx1⟩ : ∃ x1, (if z ≤ k ∧ k < k then lookM qs k else 0) = x1 := ⟨_, rfl⟩
                      obtain ⟨x2, hx2⟩ : ∃ x2, (if z ≤ k ∧ k < k then 0 else lookM qs k) = x2 := ⟨_, rfl⟩
                      rw [hx1] at f1
                      rw [hx2] at f3 f5
                      obtain ⟨x0, hx0⟩ : ∃ x0, lookM qs k = x0 := ⟨_, rfl⟩
                      rw [hx0] at f0 f5 f6 HS
                      unfold iv at f0 f1 f3 f5 f6 HS
                      clear h1 h2 h3 h4 h5 h6 k3 hx0 hx1 hx2 HL f3 f4
                      go_wp2_with fail
                      go_roundw
                      case rel => exact ⟨k + 1, _, rfl, by omega, by go_num, HS⟩
                      case measure => simp only [intOf]; omega
                    · have k2 : ¬ (k : Int) < 64 := by omega
                      have h64 : 64 ≤ k := by omega
                      have HF : Hid (Cx w3 s u B j root g qs N D H v1 v2 (.int .i64 0) (.int .i64 1) (.bool true) U) := Lib.hid (by
                        obtain ⟨hn2, hd2⟩ := HND.out
                        have hm := HL.out.1.drop (E' := fun _ => False) fun k hk => False.elim hk
                        rw [← hn2, ← hd2] at hm
                        exact .inl ⟨rfl, rfl, rfl, hm.mono (by omega), HM.out.2.1.1.mono (by omega), HM.out.2.1.2.1, by have := HM.out.2.1.2.2.1; omega, by have := HM.out.2.1.2.2.2; omega⟩)
                      clear HL hzk hk64 h64
                      go_wp2_with fail
                      go_meet
                      case rel => exact ⟨_, rfl, HF⟩
            · have b1 : (kd == 4) = false := by rw [beq_eq_false_iff_ne]; exact k4
              have b2 : (kd == 5) = false := by rw [beq_eq_false_iff_ne]; exact k5
              by_cases hp : 0 ≤ at' ∧ at' < 64
              · by_cases hv : 1 ≤ ch ∧ ch ≤ 1023
                · as_aux_lemma => -- M:C1
                    obtain rfl : bd = true := HBD.out.symm.trans (decide_eq_true hp)
                    obtain ⟨k, rfl⟩ : ∃ k : Nat, at' = (k : Int) := ⟨at'.toNat, by omega⟩
                    have hk64 : k < 64 := by omega
                    have k1 : (0 : Int) ≤ (k : Int) := by omega
                    have k2 : (k : Int) < 64 := by omega
                    obtain ⟨v, rfl⟩ : ∃ v : Nat, ch = (v : Int) := ⟨ch.toNat, by omega⟩
                    have HN := Lib.hid fun W => r12Chunk (v : Int) W
                    rw [decide_eq_true hv] at HN
                    have hv1 : 1 ≤ v := by omega
                    have hv2 : v ≤ 1023 := by omega
                    have hD := hsPut (k := k) (v := v) HM.out.1.sh HM.out.2.1.1 (by have := HM.out.1.nl; omega) (by omega) (by omega) (by omega) (by omega)
                    have HC := Lib.hid (maSetG hk64 hv1 hv2 (hD.mono fun e w' ⟨r, h1, h2⟩ => (⟨r, h1, ChR.x h2⟩ : ∃ (r : Nat), e = .returned (.tuple #[.int .i64 (r : Int), .int .i64 0]) ∧ ChX s N (8 + j + 1) D (chg [(k, v)] k qs) W7 r w')))
                    unfold pgV at HC
                    clear hD hp hv
                    go_wp2_with (first | (go_at_call 22; refine (HN.out _).mono ?_; rintro e V' ⟨rfl, rfl⟩))
                    go_wp2_with fail
                    refine HC.out.mono ?_
                    rintro e V8 ⟨r, rfl, hc⟩
                    have hkp := HM.out.keep hc.fr
                    have f1 : V8.cell? ⟨g, k, none⟩ = some (iv (lookM qs k)) := hkp.1.cell k (rowU_at qs hk64)
                    have f2 := hkp.1.fro k
                    have q1 := hkp.2.c1
                    have q2 := hkp.2.c2
                    have HF : Hid (Cx w3 s u B j root g qs N D H v1 v2 (.int .i64 (r : Int)) (.int .i64 0) (.bool false) (V8.setCell ⟨g, k, none⟩ (iv v))) := Lib.hid (HM.out.fin hc (rowU_put (HM.out.1.tr HM.out.2.1.1).m.srt (srt_put (HM.out.1.tr HM.out.2.1.1).m.srt)) (goodM_put HM.out.2.1.2.1 hk64 hv1 hv2) (Nat.le_trans (len_put _ _ _) (by have := HM.out.2.1.2.2.1; omega)) ((KeptIn.refl _ V8).setCell (p := ⟨g, k, none⟩) (by simp) _) (hkp.1.set k v))
                    unfold iv at HF
                    clear hc hkp HC p0 p1 p2
                    go_wp2_with fail
                    go_meet
                    case rel => exact ⟨_, rfl, HF⟩
                · as_aux_lemma => -- M:C2
                    obtain rfl : bd = true := HBD.out.symm.trans (decide_eq_true hp)
                    have HN := Lib.hid fun W => r12Chunk ch W
                    rw [decide_eq_false hv] at HN
                    have HC := Lib.hid fun W => maSetBad (W := W) s root at' ch (fun h => hv h.2)
                    have HF := Lib.hid (HM.out.bad (KeptIn.refl _ W7))
                    unfold pgV at HC
                    clear hp hv
                    go_wp2_with (first | (go_at_call 22; refine (HN.out _).mono ?_; rintro e V' ⟨rfl, rfl⟩))
                    go_wp2_with fail
                    refine (HC.out _).mono ?_
                    rintro e V8 ⟨rfl, rfl⟩
                    clear HC
                    go_wp2_with fail
                    go_meet
                    case rel => exact ⟨_, rfl, HF⟩
              · as_aux_lemma => -- M:C3
                  obtain rfl : bd = false := HBD.out.symm.trans (decide_eq_false hp)
                  have HC := Lib.hid fun W => maSetBad (W := W) s root at' ch (fun h => hp h.1)
                  have HF := Lib.hid (HM.out.bad (KeptIn.refl _ W7))
                  unfold pgV at HC
                  clear hp
                  go_wp2_with fail
                  refine (HC.out _).mono ?_
                  rintro e V8 ⟨rfl, rfl⟩
                  clear HC
                  go_wp2_with fail
                  go_meet
                  case rel => exact ⟨_, rfl, HF⟩
        case rest =>
          obtain ⟨V', rfl, HX⟩ := hcut
          rcases HX.out with ⟨rfl, rfl, rfl, hme⟩ | ⟨rr, qs2, N2, D2, rfl, rfl, rfl, hx1, hx2, hx3, hx4, hx5, hx6⟩
          · as_aux_lemma => -- M:R1
              have HME := Lib.hid hme
              clear HX hme HM p0 p1 p2
              go_wp2_with fail
              go_roundw
              case rel => exact ⟨j + 1, root, _, _, _, _, _, _, _, rfl, rfl, rfl, by omega, by omega, by go_num, rfl, HME⟩
              case measure => simp only [intOf]; omega
          · as_aux_lemma => -- M:R2
              have HRU := Lib.hid (And.intro hx1.row hx2)
              have HD := Lib.hid (And.intro hx1 (And.intro hx3 (And.intro hx4 (And.intro hx5 hx6))))
              clear HX hx1 hx2 hx3 hx4 hx5 hx6 HM p0 p1 p2 bk ba bc
              obtain ⟨ii, hii, hi0, hi1, hi2⟩ := info_parts infoInt12
              obtain ⟨ir, hir, hr0, hr1, hr2⟩ := info_parts infoRowZ12
              go_wp2_with (first
                | (refine wpList_load_row12 rfl _ rfl g (rowU qs2) rfl (rowU_length qs2) HRU.out.2 ?_)
                | (refine wpList_store_row12 rfl _ _ rfl u (rowU qs2) (rowU qs) rfl rfl (rowU_length _) (rowU_length _) HRU.out.1 ?_))
              intro W9 hr9 hk9 hz9
              have HM9 : Hid (Mx w3 s u B (6 * (j + 1)) (fun _ => False) N2 D2 H v1 v2 (rowU qs2) W9) := Lib.hid ((HD.out.1.storeU hk9 hr9).drop fun k hk => hk.elim)
              have hBW := HM9.out.bz
              have q9 : H.length ≤ 40 := by have := HD.out.2.2.2.2; omega
              clear hr9 hk9 hz9 HRU
              have HR1 := Lib.hid HM9.out.r1
              go_wp2_with (first
                | (at_builtin; refine wpList_append_lies _ rfl _ _ 23 rfl B 3 ii _ 1 8 Try.underlying23 hii hi0 hi1 hi2 rfl (by decide) _ _ _ rfl (HR1.out.alloc _) ⟨W9.heap.size, 0, none⟩ 1 1 [.int .i64 (rr : Int)] rfl rfl (cell_one_new _ _ _) (by simp [Value.oneCell']) (by omega) (by unfold maxLen; omega) (by omega) (by rw [World.size_alloc]; omega) (W9.heap.size + 1) (by simp) ?_; intro g1 cp1 V4 hown1 hgrow1 hat1 hlt1; have HP1 := Lib.hid (And.intro hown1 (And.intro hgrow1 hat1)); have HV4 := Lib.hid (HM9.out.row1 hgrow1); clear hown1 hgrow1 hat1 hlt1)
                | (refine wpList_load_row12 rfl _ rfl u (rowU qs2) rfl (rowU_length qs2) HV4.out.1 ?_)
                | (refine wpList_slice_row12 rfl _ rfl (rowU qs2) rfl (rowU_length qs2) ?_)
                | (at_builtin; refine wpList_append_lies _ rfl _ _ 59 rfl B 58 ir _ 64 512 Try.underlying59 hir hr0 hr1 hr2 (by kernel_rfl) (by decide) _ _ _ rfl (HV4.out.2.1.alloc _) ⟨V4.heap.size, 0, none⟩ 1 1 (cellsM (rowU qs2)) rfl (by rw [List.length_map, rowU_length]) (news_row12 V4 (rowU qs2)) (cellsM_one _) (by omega) (by unfold maxLen; omega) (by omega) (by rw [World.size_alloc]; exact Nat.le_succ_of_le HV4.out.2.2) (V4.heap.size + 1) (by simp) ?_; intro g2 cp2 V5 hown2 hgrow2 hat2 hlt2))
              have HN : Hid (Mx w3 s u B (6 * (j + 1)) (fun _ => False) N2 D2 (H ++ [(rr, qs2)]) (.slice (some ⟨g1, 0, none⟩) (H.length + 1) cp1) (.slice (some ⟨g2, 0, none⟩) (H.length + 1) cp2) (rowU qs2) V5) := Lib.hid (HM9.out.push (HD.out.2.1.mono (by omega)) HD.out.2.2.1 (by have := HD.out.2.2.2.1; omega) HP1.out.2.1 HP1.out.2.2 HP1.out.1 hgrow2 hat2 hown2)
              clear hown2 hgrow2 hat2 hlt2 HM9 HP1 HV4 HR1 hBW hii hi0 hi1 hi2 hir hr0 hr1 hr2
              go_wp2_with fail
              go_loopw [17, 18, 19] (fun i _ _ wr => ∃ (k : Int) (U : World), U = wr ∧ -1 ≤ k ∧ k ≤ 65 ∧ i = .int .i64 k ∧ Hid (Mx w3 s u B (6 * (j + 1)) (fun _ => False) N2 D2 (H ++ [(rr, qs2)]) (.slice (some ⟨g1, 0, none⟩) (H.length + 1) cp1) (.slice (some ⟨g2, 0, none⟩) (H.length + 1) cp2) (rowU qs2) U)) (fun i _ _ _ => (65 - intOf i).toNat)
              case atStart => exact ⟨-1, _, rfl, by omega, by omega, rfl, HN⟩
              case round =>
                obtain ⟨k, U, rfl, hk0, hk1, rfl, HU⟩ := hrel
                clear HN
                by_cases hlt2 : k < 65
                · have u1 : k < 65 := hlt2
                  have HP := Lib.hid fun W => r12Place k W
                  by_cases hp : 0 ≤ k ∧ k < 64
                  · obtain ⟨q, rfl⟩ : ∃ q : Nat, k = (q : Int) := ⟨k.toNat, by omega⟩
                    have hq : q < 64 := by omega
                    rw [decide_eq_true hp] at HP
                    have HG := Lib.hid (maGet (HU.out.tr HD.out.2.1).m HD.out.2.2.1 hq)
                    have hc := HU.out.row.cell q (rowU_at qs2 hq)
                    obtain ⟨x, hx⟩ : ∃ x, lookM qs2 q = x := ⟨_, rfl⟩
                    rw [hx] at HG hc
                    have HX := Lib.hid hx
                    have q1 : (0 : Int) ≤ (q : Int) := by omega
                    have q2 : (q : Int) < 64 := by omega
                    unfold pgV at HG
                    clear hx hp hc
                    go_wp2_with fail
                    refine HG.out.mono ?_
                    rintro e U2 ⟨rfl, hk2⟩
                    have HU2 := Lib.hid (HU.out.old hk2)
                    have hc2 : U2.cell? ⟨u, q, none⟩ = some (iv (lookM qs2 q)) := HU2.out.row.cell q (rowU_at qs2 hq)
                    rw [HX.out] at hc2
                    unfold iv at hc2
                    clear hk2 HG HU
                    go_wp2_with (first | (go_at_call 18; refine (HP.out _).mono ?_; rintro e V' ⟨rfl, rfl⟩))
                    go_roundw
                    case rel => exact ⟨(q : Int) + 1, _, rfl, by omega, by omega, by go_num, HU2⟩
                    case measure => simp only [intOf]; omega
                  · rw [decide_eq_false hp] at HP
                    have HG := Lib.hid fun W => maGetBad (W := W) s rr k hp
                    unfold pgV at HG
                    clear hp
                    go_wp2_with fail
                    refine (HG.out _).mono ?_
                    rintro e U2 ⟨rfl, hu2⟩
                    rw [hu2]
                    clear hu2 U2 HG
                    go_wp2_with (first | (go_at_call 18; refine (HP.out _).mono ?_; rintro e V' ⟨rfl, rfl⟩))
                    go_roundw
                    case rel => exact ⟨k + 1, _, rfl, by omega, by omega, by go_num, HU⟩
                    case measure => simp only [intOf]; omega
                · have u1 : ¬ k < 65 := hlt2
                  have HE : Hid (Me w3 s u B (j + 1) rr qs2 N2 D2 (H ++ [(rr, qs2)]) (.slice (some ⟨g1, 0, none⟩) (H.length + 1) cp1) (.slice (some ⟨g2, 0, none⟩) (H.length + 1) cp2) U) := Lib.hid ⟨HU.out, HD.out.2.1, HD.out.2.2.1, HD.out.2.2.2.1, by rw [List.length_append]; have := HD.out.2.2.2.2; simp; omega⟩
                  clear HU
                  go_wp2_with fail
                  go_roundw
                  case rel => exact ⟨j + 1, rr, _, _, _, _, _, _, _, rfl, rfl, rfl, by omega, by omega, by go_num, rfl, HE⟩
                  case measure => simp only [intOf]; omega
      · have d2 : ¬ (j : Int) < 40 := by omega
        have d3 : decide ((j : Int) < 40) = false := decide_eq_false d2
        as_aux_lemma => -- M:F1
          obtain ⟨a1, c1, rfl⟩ := own_slice12 HJ.out.1.r1
          obtain ⟨a2, c2, rfl⟩ := own_slice12 HJ.out.1.r2
          obtain ⟨n, hn⟩ : ∃ n, H.length = n := ⟨_, rfl⟩
          have hnI : (n : Int) ≤ 40 := by have := HJ.out.2.2.2.2; omega
          have HN := Lib.hid hn
          have HJ1 := Lib.hid HJ.out.1
          rw [hn] at HJ1 ⊢
          clear HJ hn
          go_wp2_with fail
          go_loopw [20, 21, 22] (fun i _ _ wr => ∃ (t : Nat) (U : World), U = wr ∧ t ≤ n ∧ i = .int .i64 (t : Int) ∧ Hid (Mx w3 s u B (6 * j) (fun _ => False) N D H (.slice a1 n c1) (.slice a2 n c2) (rowU qs) U)) (fun i _ _ _ => n - (intOf i).toNat)
          case atStart => exact ⟨0, _, rfl, Nat.zero_le _, rfl, HJ1⟩
          case round =>
            obtain ⟨t, U, rfl, ht, rfl, HU⟩ := hrel
            clear HJ1
            have t0 : (0 : Int) ≤ (t : Int) := by omega
            by_cases hlt9 : t < n
            · have t1 : (t : Int) < (n : Int) := by omega
              obtain ⟨⟨rr, pq⟩, hpp⟩ : ∃ pp, H[t]? = some pp := ⟨_, List.getElem?_eq_getElem (by rw [HN.out]; exact hlt9)⟩
              have hall := HU.out.all _ (List.mem_of_getElem? hpp)
              simp only at hall
              obtain ⟨ga, ca, ea, hc1, hg1⟩ := own_at HU.out.r1 (j := t) (u := .int .i64 (rr : Int)) (by rw [List.getElem?_map, hpp]; rfl) (by rw [List.length_map])
              obtain ⟨gb, cb, eb, hc2, hg2⟩ := own_range12 HU.out.r2 hpp
              simp only [Value.slice.injEq] at ea eb
              obtain ⟨rfl, -⟩ := ea
              obtain ⟨rfl, -⟩ := eb
              have htr := HU.out.tr hall.1
              have HL := Lib.hid (maListG htr.m hall.2.1 (by omega))
              have HA := Lib.hid (And.intro hall.2.1 (And.intro htr.m.srt hall.2.2))
              have HC2 := Lib.hid (And.intro hc2 hg2)
              obtain ⟨np, hnp⟩ : ∃ np, pq.length = np := ⟨_, rfl⟩
              have HNP := Lib.hid hnp
              rw [hnp] at HL
              unfold pgV at HL
              clear hall htr hpp hc2 hg1 hg2 hnp
              go_wp2_with fail
              refine HL.out.mono ?_
              rintro e U2 ⟨al, cl, rfl, hls, hk2⟩
              have HU2 := Lib.hid (And.intro (HU.out.old hk2) hls)
              have HR2 : Hid (U2.rangeAt gb (t * 64) (cellsM (rowU pq))) := Lib.hid fun q x hq => (World.cell?_of_block (a := ⟨gb, t * 64 + q, none⟩) (hk2.block gb HC2.out.2)).trans (HC2.out.1 q x hq)
              have hsame := maSame al cl pq HA.out.2.1 HA.out.1 U2 hls.1 (by have := HA.out.2.2; omega)
              rw [HNP.out] at hsame
              have HSM := Lib.hid hsame
              have hgd := fun V' (hk : KeptIn (· < U2.heap.size) U2 V') => maGood al cl (esOf pq) 64 true V' (hls.1.old hk) (by rw [esOf_length]; have := HA.out.2.2; omega) ⟨fun _ => goodE_of HA.out.1 HA.out.2.1, fun _ => rfl⟩
              rw [esOf_length, HNP.out] at hgd
              have HGD := Lib.hid hgd
              clear hls hk2 hsame hgd HL HU HC2 hc1
              go_wp2_with (first
                | (refine wpList_load_mid12g _ rfl (by rfl) gb (t * 64) (rowU pq) rfl (rowU_length _) HR2.out ?_)
                | (go_at_call 21; refine HSM.out.mono ?_; rintro e U5 ⟨rfl, hk5⟩; have HK5 := Lib.hid hk5; clear hk5)
                | (go_at_call 26; refine (HGD.out _ HK5.out).mono ?_; rintro e U6 ⟨rfl, hk6⟩; have HU6 := Lib.hid (HU2.out.1.old (HK5.out.go hk6)); clear hk6))
              go_roundw
              case rel => exact ⟨t + 1, _, rfl, by omega, by go_num, HU6⟩
              case measure => simp only [intOf]; omega
            · have t1 : ¬ (t : Int) < (n : Int) := by omega
              have HKE := Lib.hid (HK3.out.go HU.out.kept)
              clear HU
              go_wp2_with fail
              go_ret
              exact ⟨rfl, HKE.out⟩
    · have d1 : ¬ (j : Int) < (len : Int) := by omega
      have d3 : decide ((j : Int) < (len : Int)) = false := decide_eq_false d1
      as_aux_lemma => -- M:F2
        obtain ⟨a1, c1, rfl⟩ := own_slice12 HJ.out.1.r1
        obtain ⟨a2, c2, rfl⟩ := own_slice12 HJ.out.1.r2
        obtain ⟨n, hn⟩ : ∃ n, H.length = n := ⟨_, rfl⟩
        have hnI : (n : Int) ≤ 40 := by have := HJ.out.2.2.2.2; omega
        have HN := Lib.hid hn
        have HJ1 := Lib.hid HJ.out.1
        rw [hn] at HJ1 ⊢
        clear HJ hn
        go_wp2_with fail
        go_loopw [20, 21, 22] (fun i _ _ wr => ∃ (t : Nat) (U : World), U = wr ∧ t ≤ n ∧ i = .int .i64 (t : Int) ∧ Hid (Mx w3 s u B (6 * j) (fun _ => False) N D H (.slice a1 n c1) (.slice a2 n c2) (rowU qs) U)) (fun i _ _ _ => n - (intOf i).toNat)
        case atStart => exact ⟨0, _, rfl, Nat.zero_le _, rfl, HJ1⟩
        case round =>
          obtain ⟨t, U, rfl, ht, rfl, HU⟩ := hrel
          clear HJ1
          have t0 : (0 : Int) ≤ (t : Int) := by omega
          by_cases hlt9 : t < n
          · have t1 : (t : Int) < (n : Int) := by omega
            obtain ⟨⟨rr, pq⟩, hpp⟩ : ∃ pp, H[t]? = some pp := ⟨_, List.getElem?_eq_getElem (by rw [HN.out]; exact hlt9)⟩
            have hall := HU.out.all _ (List.mem_of_getElem? hpp)
            simp only at hall
            obtain ⟨ga, ca, ea, hc1, hg1⟩ := own_at HU.out.r1 (j := t) (u := .int .i64 (rr : Int)) (by rw [List.getElem?_map, hpp]; rfl) (by rw [List.length_map])
            obtain ⟨gb, cb, eb, hc2, hg2⟩ := own_range12 HU.out.r2 hpp
            simp only [Value.slice.injEq] at ea eb
            obtain ⟨rfl, -⟩ := ea
            obtain ⟨rfl, -⟩ := eb
            have htr := HU.out.tr hall.1
            have HL := Lib.hid (maListG htr.m hall.2.1 (by omega))
            have HA := Lib.hid (And.intro hall.2.1 (And.intro htr.m.srt hall.2.2))
            have HC2 := Lib.hid (And.intro hc2 hg2)
            obtain ⟨np, hnp⟩ : ∃ np, pq.length = np := ⟨_, rfl⟩
            have HNP := Lib.hid hnp
            rw [hnp] at HL
            unfold pgV at HL
            clear hall htr hpp hc2 hg1 hg2 hnp
            go_wp2_with fail
            refine HL.out.mono ?_
            rintro e U2 ⟨al, cl, rfl, hls, hk2⟩
            have HU2 := Lib.hid (And.intro (HU.out.old hk2) hls)
            have HR2 : Hid (U2.rangeAt gb (t * 64) (cellsM (rowU pq))) := Lib.hid fun q x hq => (World.cell?_of_block (a := ⟨gb, t * 64 + q, none⟩) (hk2.block gb HC2.out.2)).trans (HC2.out.1 q x hq)
            have hsame := maSame al cl pq HA.out.2.1 HA.out.1 U2 hls.1 (by have := HA.out.2.2; omega)
            rw [HNP.out] at hsame
            have HSM := Lib.hid hsame
            have hgd := fun V' (hk : KeptIn (· < U2.heap.size) U2 V') => maGood al cl (esOf pq) 64 true V' (hls.1.old hk) (by rw [esOf_length]; have := HA.out.2.2; omega) ⟨fun _ => goodE_of HA.out.1 HA.out.2.1, fun _ => rfl⟩
            rw [esOf_length, HNP.out] at hgd
            have HGD := Lib.hid hgd
            clear hls hk2 hsame hgd HL HU HC2 hc1
            go_wp2_with (first
              | (refine wpList_load_mid12g _ rfl (by rfl) gb (t * 64) (rowU pq) rfl (rowU_length _) HR2.out ?_)
              | (go_at_call 21; refine HSM.out.mono ?_; rintro e U5 ⟨rfl, hk5⟩; have HK5 := Lib.hid hk5; clear hk5)
              | (go_at_call 26; refine (HGD.out _ HK5.out).mono ?_; rintro e U6 ⟨rfl, hk6⟩; have HU6 := Lib.hid (HU2.out.1.old (HK5.out.go hk6)); clear hk6))
            go_roundw
            case rel => exact ⟨t + 1, _, rfl, by omega, by go_num, HU6⟩
            case measure => simp only [intOf]; omega
          · have t1 : ¬ (t : Int) < (n : Int) := by omega
            have HKE := Lib.hid (HK3.out.go HU.out.kept)
            clear HU
            go_wp2_with fail
            go_ret
            exact ⟨rfl, HKE.out⟩

end Go.Proofs.Ytbnpabpkaebojaa
