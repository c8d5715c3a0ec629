/- HeatExact of layer 15: the walk: it returns true for every input and writes nothing that was there. -/
import Derived.Test.YtdbohcdjamhdjaaRe15
import Derived.Test.YtdbohcdjamhdjaaNums
import Derived.Deep.Cut
import Derived.Deep.CutRange
import Derived.Deep.CutBlock
import Derived.OpenShut
set_option linter.unusedVariables false
namespace Go.Proofs.Ytdbohcdjamhdjaa
open Go.RowKit Go.Maps

/-- A slice of deeds that came in. -/
def IsActs15 (w : World) (a : Option Addr) (len : Nat) : Prop :=
  len = 0 ∨ ∃ b off, a = some ⟨b, off, none⟩ ∧ b < w.heap.size ∧ len ≤ maxLen ∧ ∀ i, i < len → ∃ kd c q : Int, (Lit.int .i64 kd).wf = true ∧ (Lit.int .i64 c).wf = true ∧ (Lit.int .i64 q).wf = true ∧
    w.cell? ⟨b, off + i * 3, none⟩ = some (.int .i64 kd) ∧ w.cell? ⟨b, off + i * 3 + 1, none⟩ = some (.int .i64 c) ∧ w.cell? ⟨b, off + i * 3 + 2, none⟩ = some (.int .i64 q)
theorem IsActs15.len_le {w : World} {a : Option Addr} {len : Nat} (h : IsActs15 w a len) : len ≤ maxLen := by
  rcases h with rfl | ⟨_, _, _, _, h, _⟩
  · exact Nat.zero_le _
  · exact h
/-- A deed in a box. -/
def BoxA15 (y : Nat) (kd c q : Int) (W : World) : Prop := W.heap[y]? = some (.cells #[.int .i64 kd, .int .i64 c, .int .i64 q] 51 (0, 0))
theorem BoxA15.cells {y : Nat} {kd c q : Int} {W : World} (h : BoxA15 y kd c q W) : W.cell? ⟨y, 0, none⟩ = some (.int .i64 kd) ∧ W.cell? ⟨y, 1, none⟩ = some (.int .i64 c) ∧ W.cell? ⟨y, 2, none⟩ = some (.int .i64 q) := by
  unfold BoxA15 at h
  exact ⟨by simp [World.cell?, h], by simp [World.cell?, h], by simp [World.cell?, h]⟩

/-- The program's book and the document's, side by side. -/
structure E2 (w1 : World) (b m : Nat) (f : Int → Nat) (r : Nat) (g : Int → Nat) (W : World) : Prop where
  ha : HL w1 b m f W
  row : RowU 49 r (bookL g) W
  lo : w1.heap.size ≤ r
section
variable {w1 W W' : World} {b m r : Nat} {f g f' g' : Int → Nat} {e : Ending}
theorem E2.nes (H : E2 w1 b m f r g W) : b ≠ r ∧ m ≠ r := by
  refine ⟨fun e => ?_, (H.ha.bk.mp.ne H.row).symm⟩
  have h1 := H.ha.bk.hb
  have h2 := H.row
  unfold RowU at h2
  rw [e, h2] at h1
  simp only [Option.some.injEq, Obj.cells.injEq] at h1
  exact absurd h1.2.1 (by decide)
theorem E2.old (H : E2 w1 b m f r g W) (hk : KeptIn (· < W.heap.size) W W') : E2 w1 b m f r g W' := ⟨H.ha.old hk, H.row.old hk, H.lo⟩
theorem E2.fst (H : E2 w1 b m f r g W) (h : HlD w1 b m f' W e W') : E2 w1 b m f' r g W' := ⟨h.2.1, H.row.kept h.2.2 ⟨H.row.lt, H.nes.2.symm⟩, H.lo⟩
theorem E2.snd (H : E2 w1 b m f r g W) (hr : RowU 49 r (bookL g') W') (hk : KeptIn (· ≠ r) W W') : E2 w1 b m f r g' W' :=
  ⟨⟨H.ha.bk.kept hk H.nes.1 H.nes.2, H.ha.kept.trans (hk.mono fun k h => by have := H.lo; omega), H.ha.hm⟩, hr, H.lo⟩
/-- A deed leaves a box as it is. -/
theorem BoxA15.fst {y : Nat} {kd c q : Int} (hb : BoxA15 y kd c q W) (H : E2 w1 b m f r g W) (h : HlD w1 b m f' W e W') : BoxA15 y kd c q W' :=
  (h.2.2.block y ⟨(Array.getElem?_eq_some_iff.1 hb).1, H.ha.bk.mp.ne hb⟩).trans hb
theorem BoxA15.snd {y : Nat} {kd c q : Int} (hb : BoxA15 y kd c q W) (H : E2 w1 b m f r g W) (hk : KeptIn (· ≠ r) W W') : BoxA15 y kd c q W' := by
  refine (hk.block y fun e => ?_).trans hb
  have h1 := H.row
  unfold RowU at h1
  unfold BoxA15 at hb
  rw [e, h1] at hb
  simp only [Option.some.injEq, Obj.cells.injEq] at hb
  exact absurd hb.2.1 (by decide)
theorem BoxA15.old {y : Nat} {kd c q : Int} (hb : BoxA15 y kd c q W) (hk : KeptIn (· < W.heap.size) W W') : BoxA15 y kd c q W' := (hk.block y (Array.getElem?_eq_some_iff.1 hb).1).trans hb
end

/-- What a deed of the law makes of heats. -/
def ac15 (f : Int → Nat) (kd c q : Int) : Int → Nat := if kd = 1 ∨ kd = 2 then tch f c q else if kd = 3 then dcy f else htS f c 0

/-- Contracts for regions that draw their order. -/
theorem htOfQ15 {W : World} {b m : Nat} {f : Int → Nat} (H : HBk b m f W) (c : Int) (hc : (Lit.int .i64 c).wf = true) (n : Nat) :
    Calls Try.prog 18 #[.pointer (some ⟨b, 0, none⟩), .int .i64 c] (W.drewN n) fun e w' => e = .returned (.int .i64 (f c : Int)) ∧ w' = W.drewN n :=
  (htOf (H.old ((KeptIn.refl _ _).drewN n)) c hc).mono fun e w' ⟨h1, h2⟩ => ⟨h1, h2.symm⟩
theorem r15OfQ {W : World} {g : Nat} {f : Int → Nat} (H : RowU 49 g (bookL f) W) (hr : ∀ c, f c ≠ 0 → 1 ≤ c ∧ c ≤ 1023) (c : Int) (n : Nat) :
    Calls Try.prog 19 #[.pointer (some ⟨g, 0, none⟩), .int .i64 c] (W.drewN n) fun e w' => e = .returned (.int .i64 (f c : Int)) ∧ w' = W.drewN n :=
  (r15Of (H.old ((KeptIn.refl _ _).drewN n)) hr c).mono fun e w' ⟨h1, h2⟩ => ⟨h1, h2.symm⟩

/-- How many below c are hot, and their place. -/
theorem upTo_succ (n : Nat) (P : Int → Bool) : upTo (n + 1) P = upTo n P ++ (if P (n : Int) then [(n : Int)] else []) := by
  unfold upTo
  rw [List.range_succ, List.filter_append, List.map_append]
  by_cases h : P (n : Int) = true
  · simp [h]
  · simp [h]
theorem upTo_prefix (P : Int → Bool) (c : Nat) : ∀ n, c ≤ n → upTo c P <+: upTo n P := by
  intro n hn
  induction n with
  | zero => obtain rfl : c = 0 := by omega
            exact List.prefix_rfl
  | succ n ih =>
    by_cases h : c = n + 1
    · subst h; exact List.prefix_rfl
    · rw [upTo_succ]
      exact (ih (by omega)).trans (List.prefix_append _ _)
def cntH (f : Int → Nat) (c : Nat) : Nat := (upTo c fun x => decide (f x ≠ 0)).length
theorem cntH_succ (f : Int → Nat) (c : Nat) : cntH f (c + 1) = cntH f c + (if f (c : Int) = 0 then 0 else 1) := by
  unfold cntH
  rw [upTo_succ, List.length_append]
  by_cases h : f (c : Int) = 0
  · simp [h]
  · simp [h]
theorem cntH_at (f : Int → Nat) {c : Nat} (hc : c < 1024) (h : f (c : Int) ≠ 0) : (hots f)[cntH f c]? = some (c : Int) := by
  have hp := upTo_prefix (fun x => decide (f x ≠ 0)) (c + 1) 1024 (by omega)
  obtain ⟨t, ht⟩ := hp
  rw [upTo_succ] at ht
  unfold hots cntH
  rw [← ht]
  rw [if_pos (by simpa using h), List.append_assoc, List.getElem?_append_right (Nat.le_refl _), Nat.sub_self]
  rfl
theorem cntH_all (f : Int → Nat) : cntH f 1024 = (hots f).length := rfl
theorem sumN_succ (f : Int → Nat) (c : Nat) : sumN (c + 1) f = sumN c f + f (c : Int) := by
  unfold sumN
  rw [List.range_succ, List.map_append, List.sum_append]
  simp
theorem sumN_le {f : Int → Nat} (hm : ∀ c, f c ≤ 1048576) (c : Nat) (hc : c ≤ 1024) : sumN c f ≤ 1073741824 := by
  have := sum_le15 c 1048576 (fun i : Nat => f (i : Int)) (fun i => hm _)
  unfold sumN
  have h2 : c * 1048576 ≤ 1024 * 1048576 := Nat.mul_le_mul_right _ hc
  omega
theorem cntH_one {f : Int → Nat} (hr : ∀ c, f c ≠ 0 → 1 ≤ c ∧ c ≤ 1023) : cntH f 1 = 0 ∧ sumN 1 f = 0 := by
  have h0 : f 0 = 0 := Classical.byContradiction fun e => by have := hr 0 e; omega
  have h0' : f ((0 : Nat) : Int) = 0 := h0
  refine ⟨?_, ?_⟩
  · rw [cntH_succ, if_pos h0']; rfl
  · rw [sumN_succ, h0']; rfl

theorem ex_num (t n kk : Nat) (h1 : 1 ≤ t) (h2 : t < 1024) (h3 : kk < n) (h4 : n ≤ 1024) : (0 : Int) ≤ (t : Int) ∧ (t : Int) < 1024 ∧ (t : Int) ≤ 1023 ∧ (0 : Int) ≤ (kk : Int) ∧ (kk : Int) < (n : Int) ∧ decide ((n : Int) ≤ (kk : Int)) = false ∧ decide (n ≤ kk) = false ∧ (kk : Int) ≤ 1024 ∧ ¬ n ≤ kk := by
  refine ⟨by omega, by omega, by omega, by omega, by omega, decide_eq_false (by omega), decide_eq_false (by omega), by omega, by omega⟩
set_option maxRecDepth 100000 in
set_option maxHeartbeats 8000000 in
theorem exaW15 (a : Option Addr) (len cap : Nat) (w : World) (w0 : IsActs15 w a len) :
    Calls Try.prog 4 #[.slice a len cap] w fun e w' => e = .returned (.bool true) ∧ KeptIn (· < w.heap.size) w w' := by
  have l0 := w0.len_le
  unfold maxLen at l0
  have b0 : (len : Int) ≤ 9223372036854775807 := by omega
  have WA := Lib.hid w0
  clear w0 l0
  go_enter Try.func4, Try.ntmps4
  go_wp2_with fail
  refine (awake15 w).mono ?_
  rintro e W1 ⟨rfl, k1⟩
  have HK1 := Lib.hid k1
  clear k1
  go_wp2_with fail
  refine (htNew W1).mono ?_
  rintro e W2 hN
  obtain ⟨b, m, rfl, hH, -⟩ := HL.new hN
  have HA := Lib.hid hH
  clear hN hH
  go_wp2_with (first | (refine wpList_build_K rfl rfl ?_) | (refine wpList_box_K rfl _ rfl zerosK rfl ?_))
  intro V3 hr3 hk3 hs3
  have HI0 : Hid (E2 W1 b m (fun _ => 0) W2.heap.size (fun _ => 0) V3) := Lib.hid ⟨HA.out.old hk3, by rw [bookL_zero]; exact hr3, HA.out.kept.size⟩
  clear hr3 hk3 hs3 HA
  generalize W2.heap.size = r at *
  go_wp2_with fail
  go_loopw [5, 6] (fun i _ wr => ∃ (j : Nat) (V : World) (f : Int → Nat), V = wr ∧ j ≤ len ∧ j ≤ 100 ∧ i = .int .i64 (j : Int) ∧ Hid (E2 W1 b m f r f V)) (fun i _ _ => 100 - (RowKit.intOf i).toNat)
  case atStart => exact ⟨0, _, _, rfl, Nat.zero_le _, Nat.zero_le _, rfl, HI0⟩
  case round =>
    obtain ⟨j, V, f, rfl, hj, hj1, rfl, HJ⟩ := hrel
    clear HI0
    have d0 : (0 : Int) ≤ (j : Int) := by omega
    by_cases hlt : j < len ∧ j < 100
    · have d1 : (j : Int) < (len : Int) := by omega
      have d2 : (j : Int) < 100 := by omega
      obtain ⟨ab, off, rfl, hab, _, hel⟩ : ∃ b off, a = some ⟨b, off, none⟩ ∧ b < w.heap.size ∧ len ≤ maxLen ∧ _ := WA.out.resolve_left (by omega)
      obtain ⟨kd, c, q, wk, wc, wq, e0, e1, e2⟩ := hel j hlt.1
      have hkw : KeptIn (· < w.heap.size) w V := HK1.out.on15 HJ.out.ha.kept
      have g0 := (World.cell?_of_block (hkw.block ab hab)).trans e0
      have g1 := (World.cell?_of_block (hkw.block ab hab)).trans e1
      have g2 := (World.cell?_of_block (hkw.block ab hab)).trans e2
      have kA : KeptIn (· < V.heap.size) V (V.alloc (.cells #[.int .i64 kd, .int .i64 c, .int .i64 q] 51)) := (KeptIn.refl _ V).alloc (fun _ h => h) _
      have H5 : Hid (E2 W1 b m f r f (V.alloc (.cells #[.int .i64 kd, .int .i64 c, .int .i64 q] 51)) ∧ BoxA15 V.heap.size kd c q (V.alloc (.cells #[.int .i64 kd, .int .i64 c, .int .i64 q] 51))) := Lib.hid ⟨HJ.out.old kA, heap_alloc_new V _⟩
      have HWF := Lib.hid (And.intro wk (And.intro wc wq))
      have HJM := Lib.hid HJ.out.ha.bk.mx
      clear e0 e1 e2 hel wk wc wq HJ hkw hlt kA
      go_upto_block 2 with fail
      clear g0 g1 g2
      generalize V.alloc (.cells #[.int .i64 kd, .int .i64 c, .int .i64 q] 51) = W5 at *
      generalize V.heap.size = y at *
      obtain ⟨p0, p1, p2⟩ := H5.out.2.cells
      go_cut [] from 33 to 79 (fun wx => ∃ (V' : World) (f' : Int → Nat), V' = wx ∧ Hid (E2 W1 b m f' r f' V' ∧ BoxA15 y kd c q V'))
      case first => -- M:first
        as_aux_lemma =>
          by_cases k1 : kd = 1
          · subst k1
            have CT := Lib.hid (H5.out.1.ha.touch c q HWF.out.2.1 HWF.out.2.2)
            go_wp2_with fail
            refine CT.out.mono ?_
            rintro e V2 hD
            have HE2 := Lib.hid (And.intro (H5.out.1.fst hD) (H5.out.2.fst H5.out.1 hD))
            obtain rfl : e = .returned (.tuple #[]) := hD.1
            clear CT hD H5 p0 p1 p2
            obtain ⟨p0, p1, p2⟩ := HE2.out.2.cells
            have CR := Lib.hid (r15Touch HE2.out.1.row HJM.out c q HWF.out.2.1 HWF.out.2.2)
            go_wp2_with fail
            refine CR.out.mono ?_
            rintro e V4 ⟨rfl, h1, h2⟩
            have HE3 : Hid (E2 W1 b m (tch f c q) r (tch f c q) V4 ∧ BoxA15 y _ c q V4) := Lib.hid ⟨HE2.out.1.snd h1 h2, HE2.out.2.snd HE2.out.1 h2⟩
            clear CR HE2 h1 h2 p0 p1 p2
            go_wp2_with fail
            go_meet
            case rel => exact ⟨_, _, rfl, HE3⟩
          · by_cases k2 : kd = 2
            · subst k2
              have CT := Lib.hid (H5.out.1.ha.touch c q HWF.out.2.1 HWF.out.2.2)
              go_wp2_with fail
              refine CT.out.mono ?_
              rintro e V2 hD
              have HE2 := Lib.hid (And.intro (H5.out.1.fst hD) (H5.out.2.fst H5.out.1 hD))
              obtain rfl : e = .returned (.tuple #[]) := hD.1
              clear CT hD H5 p0 p1 p2
              obtain ⟨p0, p1, p2⟩ := HE2.out.2.cells
              have CR := Lib.hid (r15Touch HE2.out.1.row HJM.out c q HWF.out.2.1 HWF.out.2.2)
              go_wp2_with fail
              refine CR.out.mono ?_
              rintro e V4 ⟨rfl, h1, h2⟩
              have HE3 : Hid (E2 W1 b m (tch f c q) r (tch f c q) V4 ∧ BoxA15 y _ c q V4) := Lib.hid ⟨HE2.out.1.snd h1 h2, HE2.out.2.snd HE2.out.1 h2⟩
              clear CR HE2 h1 h2 p0 p1 p2
              go_wp2_with fail
              go_meet
              case rel => exact ⟨_, _, rfl, HE3⟩
            · by_cases k3 : kd = 3
              · subst k3
                have CT := Lib.hid H5.out.1.ha.decay
                go_wp2_with fail
                refine CT.out.mono ?_
                rintro e V2 hD
                have HE2 := Lib.hid (And.intro (H5.out.1.fst hD) (H5.out.2.fst H5.out.1 hD))
                obtain rfl : e = .returned (.tuple #[]) := hD.1
                have CR := Lib.hid (r15Decay HE2.out.1.row H5.out.1.ha.bk.ran HJM.out)
                clear CT hD H5 p0 p1 p2
                go_wp2_with fail
                refine CR.out.mono ?_
                rintro e V4 ⟨rfl, h1, h2⟩
                have HE3 : Hid (E2 W1 b m (dcy f) r (dcy f) V4 ∧ BoxA15 y _ c q V4) := Lib.hid ⟨HE2.out.1.snd h1 h2, HE2.out.2.snd HE2.out.1 h2⟩
                clear CR HE2 h1 h2
                go_wp2_with fail
                go_meet
                case rel => exact ⟨_, _, rfl, HE3⟩
              · have b1 : (kd == 1) = false := by rw [beq_eq_false_iff_ne]; exact k1
                have b2 : (kd == 2) = false := by rw [beq_eq_false_iff_ne]; exact k2
                have b3 : (kd == 3) = false := by rw [beq_eq_false_iff_ne]; exact k3
                have CT := Lib.hid (H5.out.1.ha.forget c HWF.out.2.1)
                go_wp2_with fail
                refine CT.out.mono ?_
                rintro e V2 hD
                have HE2 := Lib.hid (And.intro (H5.out.1.fst hD) (H5.out.2.fst H5.out.1 hD))
                obtain rfl : e = .returned (.tuple #[]) := hD.1
                have HRAN := Lib.hid H5.out.1.ha.bk.ran
                clear CT hD H5 p0 p1 p2
                obtain ⟨p0, p1, p2⟩ := HE2.out.2.cells
                by_cases hr : 1 ≤ c ∧ c ≤ 1023
                · obtain ⟨i, hi⟩ : ∃ i : Nat, c = i := ⟨c.toNat, by omega⟩
                  obtain ⟨r1, r2⟩ := hr
                  have r3 : c < 1024 := by omega
                  have r4 : (0 : Int) ≤ c := by omega
                  have ce := HE2.out.1.row.cell (bookL_at f (i := i) (by omega))
                  have fr := HE2.out.1.row.fro i
                  have hs := HE2.out.1.row.set i 0
                  rw [bookL_set _ (by omega), ← hi] at hs
                  have HE3 : Hid (∀ X : World, X.heap = (V2.setCell ⟨r, i, none⟩ (.int .i64 0)).heap → KeptIn (· ≠ r) V2 X → E2 W1 b m (htS f c 0) r (htS f c 0) X ∧ BoxA15 y kd c q X) := Lib.hid fun X hX hk => ⟨HE2.out.1.snd (by unfold RowU at hs ⊢; rw [hX]; exact hs) hk, HE2.out.2.snd HE2.out.1 hk⟩
                  generalize f (i : Int) = x at ce
                  clear hs
                  subst hi
                  have r5 : i < 1024 := by omega
                  go_wp2_with fail
                  go_region
                  go_wp2_with fail
                  go_meet
                  case rel => exact ⟨_, _, rfl, Lib.hid (HE3.out _ rfl (((KeptIn.refl _ V2).drew).setCell (by simp) _))⟩
                · have e0 : htS f c 0 = f := by
                    funext d
                    unfold htS
                    split
                    · rename_i h
                      rw [h]
                      exact (Classical.byContradiction fun e => hr (HRAN.out c (fun e2 => e e2.symm)))
                    · rfl
                  have HE3 : Hid (E2 W1 b m f r f V2 ∧ BoxA15 y kd c q V2) := Lib.hid (by
                    have := HE2.out
                    rw [e0] at this
                    exact this)
                  clear HE2 e0
                  by_cases hr1 : 1 ≤ c
                  · have hr2 : ¬ c ≤ 1023 := by omega
                    clear hr
                    go_wp2_with fail
                    go_meet
                    case rel => exact ⟨_, _, rfl, HE3⟩
                  · clear hr
                    go_wp2_with fail
                    go_meet
                    case rel => exact ⟨_, _, rfl, HE3⟩
      case rest => -- M:rest
        as_aux_lemma =>
          obtain ⟨V', f', rfl, HJ2⟩ := hcut
          clear H5 p0 p1 p2
          obtain ⟨p0, p1, p2⟩ := HJ2.out.2.cells
          have CA := Lib.hid fun nq => htOfQ15 HJ2.out.1.ha.bk c HWF.out.2.1 nq
          have CB := Lib.hid fun nq => r15OfQ HJ2.out.1.row HJ2.out.1.ha.bk.ran c nq
          generalize f' c = x at CA CB
          go_wp2_with fail
          go_quiet (first | (go_at_call 18; exact Calls.quiet_of_same (CA.out _)) | (go_at_call 19; exact Calls.quiet_of_same (CB.out _)))
          have HJ3 : Hid (E2 W1 b m f' r f' (V'.drewN nq)) := Lib.hid (HJ2.out.1.old ((KeptIn.refl _ _).drewN nq))
          clear CA CB HJ2 p0 p1 p2 WA
          go_wp2_with fail
          go_roundw
          case rel => exact ⟨j + 1, _, _, rfl, by omega, by omega, by go_num, HJ3⟩
          case measure => simp only [RowKit.intOf]; omega
    · -- M:end
      by_cases hl2 : j < len
      · have d1 : (j : Int) < (len : Int) := by omega
        have d2 : ¬ (j : Int) < 100 := by omega
        clear hlt hl2
        have CH := Lib.hid HJ.out.ha.hot
        have hnl := hots_length f
        go_wp2_with fail
        refine CH.out.mono ?_
        rintro e V2 hS
        unfold HotS at hS
        obtain ⟨a9, cap9, rfl, hrow, hk⟩ := hS
        have HF := Lib.hid (And.intro (HJ.out.old hk) hrow)
        obtain ⟨n, hn⟩ : ∃ n, (hots f).length = n := ⟨_, rfl⟩
        rw [hn] at hnl ⊢
        have HN := Lib.hid hn
        clear CH hrow hk HJ hn
        go_wp2_with fail
        go_loopw [8, 9, 10] (fun k s c wr => ∃ (t : Nat) (X : World), X = wr ∧ 1 ≤ t ∧ t ≤ 1024 ∧ k = .int .i64 (cntH f t : Int) ∧ s = .int .i64 (sumN t f : Int) ∧ c = .int .i64 (t : Int) ∧ Hid (KeptIn (· < V2.heap.size) V2 X)) (fun _ _ c _ => 1024 - (RowKit.intOf c).toNat)
        case atStart => exact ⟨1, _, rfl, Nat.le_refl _, by omega, by rw [(cntH_one HF.out.1.ha.bk.ran).1]; rfl, by rw [(cntH_one HF.out.1.ha.bk.ran).2]; rfl, rfl, Lib.hid (KeptIn.refl _ _)⟩
        case round =>
          obtain ⟨t, X, rfl, ht0, ht, rfl, rfl, rfl, HX⟩ := hrel
          by_cases hlt2 : t < 1024
          · have hE := HF.out.1.old HX.out
            have ce := hE.row.cell (bookL_at f hlt2)
            have hs := sumN_succ f t
            have hcn := cntH_succ f t
            have hsl := sumN_le hE.ha.bk.mx (t + 1) (by omega)
            by_cases hx0 : f (t : Int) = 0
            · have w1 : (0 : Int) ≤ (t : Int) := by omega
              have w2 : (t : Int) < 1024 := by omega
              have w3 : (t : Int) ≤ 1023 := by omega
              rw [hx0] at ce hs
              rw [if_pos hx0] at hcn
              have HS := Lib.hid (And.intro hcn hs)
              generalize cntH f t = kk at *
              generalize sumN t f = ss at *
              clear hE hs hcn hsl hx0
              go_wp2_with fail
              go_roundw
              case rel => exact ⟨t + 1, _, rfl, by omega, by omega, by rw [HS.out.1]; rfl, by rw [HS.out.2]; rfl, by go_num, HX⟩
              case measure => simp only [RowKit.intOf]; omega
            · have hat := cntH_at f hlt2 hx0
              obtain ⟨g9, rfl, c9⟩ := (HF.out.2.kept HX.out (fun g _ h _ => h)).at hat
              have hkl : cntH f t < n := by rw [← HN.out]; exact (List.getElem?_eq_some_iff.1 hat).1
              have CO := Lib.hid fun nq => htOfQ15 hE.ha.bk (t : Int) (ch_wf15 (t : Int) (by omega) (by omega)) nq
              obtain ⟨w1, w2, w3, w4, w5, w6, w7, w8, w9⟩ := ex_num t n _ ht0 hlt2 hkl hnl
              rw [if_neg hx0] at hcn
              have x0 : 0 < f (t : Int) := Nat.pos_of_ne_zero hx0
              generalize f (t : Int) = x at *
              have x1 : (0 : Int) < (x : Int) := by omega
              have HS := Lib.hid (And.intro hcn hs)
              rw [hs] at hsl
              generalize cntH f t = kk at *
              generalize sumN t f = ss at *
              have s1 : (0 : Int) ≤ (ss : Int) := by omega
              have s2 : (ss : Int) + (x : Int) ≤ 1073741824 := by omega
              clear hE hs hcn hx0 hat hkl hsl
              go_wp2_with fail
              go_quiet ((go_at_call 18; exact Calls.quiet_of_same (CO.out _)))
              have ce2 : (X.drewN nq).cell? ⟨r, t, none⟩ = some (.int .i64 (x : Int)) := ce
              have HX2 : Hid (KeptIn (· < V2.heap.size) V2 (X.drewN nq)) := Lib.hid (HX.out.drewN nq)
              clear CO c9 ce HX w6 w7
              go_wp2_with fail
              go_roundw
              case rel => exact ⟨t + 1, _, rfl, by omega, by omega, by rw [HS.out.1]; go_num, by rw [HS.out.2]; go_num, by go_num, HX2⟩
              case measure => simp only [RowKit.intOf]; omega
          · obtain rfl : t = 1024 := by omega
            have hE := HF.out.1.old HX.out
            have e1 : cntH f 1024 = n := HN.out
            have e2 : sumN 1024 f = sumHt f := rfl
            rw [e1, e2]
            have CS := Lib.hid hE.ha.sum
            have HKE := Lib.hid (HK1.out.on15 hE.ha.kept)
            have C1 := Lib.hid (htNilTouch 1 1 X)
            have C2 := Lib.hid (htNilDecay X)
            have C3 := Lib.hid (htNilForget 1 X)
            generalize sumHt f = ss at *
            clear hE e1 e2 HX HF hlt2
            go_wp2_with fail
            refine C1.out.mono ?_
            rintro e _ ⟨rfl, rfl⟩
            go_wp2_with fail
            refine C2.out.mono ?_
            rintro e _ ⟨rfl, rfl⟩
            go_wp2_with fail
            refine C3.out.mono ?_
            rintro e _ ⟨rfl, rfl⟩
            clear C1 C2 C3
            go_wp2_with fail
            refine CS.out.mono ?_
            rintro e X2 ⟨rfl, kx⟩
            have HKF := Lib.hid (HKE.out.on15 kx)
            have C4 := Lib.hid (htNilOf 1 X2)
            have C5 := Lib.hid (htNilSum X2)
            have C6 := Lib.hid (htNilHot X2)
            clear CS kx HKE
            go_wp2_with fail
            refine C4.out.mono ?_
            rintro e _ ⟨rfl, rfl⟩
            go_wp2_with fail
            refine C5.out.mono ?_
            rintro e _ ⟨rfl, rfl⟩
            go_wp2_with fail
            refine C6.out.mono ?_
            rintro e _ ⟨rfl, rfl⟩
            clear C4 C5 C6
            go_wp2_with fail
            go_ret
            exact ⟨rfl, HKF.out⟩
      · have d1 : ¬ (j : Int) < (len : Int) := by omega
        clear hlt hl2
        have CH := Lib.hid HJ.out.ha.hot
        have hnl := hots_length f
        go_wp2_with fail
        refine CH.out.mono ?_
        rintro e V2 hS
        unfold HotS at hS
        obtain ⟨a9, cap9, rfl, hrow, hk⟩ := hS
        have HF := Lib.hid (And.intro (HJ.out.old hk) hrow)
        obtain ⟨n, hn⟩ : ∃ n, (hots f).length = n := ⟨_, rfl⟩
        rw [hn] at hnl ⊢
        have HN := Lib.hid hn
        clear CH hrow hk HJ hn
        go_wp2_with fail
        go_loopw [8, 9, 10] (fun k s c wr => ∃ (t : Nat) (X : World), X = wr ∧ 1 ≤ t ∧ t ≤ 1024 ∧ k = .int .i64 (cntH f t : Int) ∧ s = .int .i64 (sumN t f : Int) ∧ c = .int .i64 (t : Int) ∧ Hid (KeptIn (· < V2.heap.size) V2 X)) (fun _ _ c _ => 1024 - (RowKit.intOf c).toNat)
        case atStart => exact ⟨1, _, rfl, Nat.le_refl _, by omega, by rw [(cntH_one HF.out.1.ha.bk.ran).1]; rfl, by rw [(cntH_one HF.out.1.ha.bk.ran).2]; rfl, rfl, Lib.hid (KeptIn.refl _ _)⟩
        case round =>
          obtain ⟨t, X, rfl, ht0, ht, rfl, rfl, rfl, HX⟩ := hrel
          by_cases hlt2 : t < 1024
          · have hE := HF.out.1.old HX.out
            have ce := hE.row.cell (bookL_at f hlt2)
            have hs := sumN_succ f t
            have hcn := cntH_succ f t
            have hsl := sumN_le hE.ha.bk.mx (t + 1) (by omega)
            by_cases hx0 : f (t : Int) = 0
            · have w1 : (0 : Int) ≤ (t : Int) := by omega
              have w2 : (t : Int) < 1024 := by omega
              have w3 : (t : Int) ≤ 1023 := by omega
              rw [hx0] at ce hs
              rw [if_pos hx0] at hcn
              have HS := Lib.hid (And.intro hcn hs)
              generalize cntH f t = kk at *
              generalize sumN t f = ss at *
              clear hE hs hcn hsl hx0
              go_wp2_with fail
              go_roundw
              case rel => exact ⟨t + 1, _, rfl, by omega, by omega, by rw [HS.out.1]; rfl, by rw [HS.out.2]; rfl, by go_num, HX⟩
              case measure => simp only [RowKit.intOf]; omega
            · have hat := cntH_at f hlt2 hx0
              obtain ⟨g9, rfl, c9⟩ := (HF.out.2.kept HX.out (fun g _ h _ => h)).at hat
              have hkl : cntH f t < n := by rw [← HN.out]; exact (List.getElem?_eq_some_iff.1 hat).1
              have CO := Lib.hid fun nq => htOfQ15 hE.ha.bk (t : Int) (ch_wf15 (t : Int) (by omega) (by omega)) nq
              obtain ⟨w1, w2, w3, w4, w5, w6, w7, w8, w9⟩ := ex_num t n _ ht0 hlt2 hkl hnl
              rw [if_neg hx0] at hcn
              have x0 : 0 < f (t : Int) := Nat.pos_of_ne_zero hx0
              generalize f (t : Int) = x at *
              have x1 : (0 : Int) < (x : Int) := by omega
              have HS := Lib.hid (And.intro hcn hs)
              rw [hs] at hsl
              generalize cntH f t = kk at *
              generalize sumN t f = ss at *
              have s1 : (0 : Int) ≤ (ss : Int) := by omega
              have s2 : (ss : Int) + (x : Int) ≤ 1073741824 := by omega
              clear hE hs hcn hx0 hat hkl hsl
              go_wp2_with fail
              go_quiet ((go_at_call 18; exact Calls.quiet_of_same (CO.out _)))
              have ce2 : (X.drewN nq).cell? ⟨r, t, none⟩ = some (.int .i64 (x : Int)) := ce
              have HX2 : Hid (KeptIn (· < V2.heap.size) V2 (X.drewN nq)) := Lib.hid (HX.out.drewN nq)
              clear CO c9 ce HX w6 w7
              go_wp2_with fail
              go_roundw
              case rel => exact ⟨t + 1, _, rfl, by omega, by omega, by rw [HS.out.1]; go_num, by rw [HS.out.2]; go_num, by go_num, HX2⟩
              case measure => simp only [RowKit.intOf]; omega
          · obtain rfl : t = 1024 := by omega
            have hE := HF.out.1.old HX.out
            have e1 : cntH f 1024 = n := HN.out
            have e2 : sumN 1024 f = sumHt f := rfl
            rw [e1, e2]
            have CS := Lib.hid hE.ha.sum
            have HKE := Lib.hid (HK1.out.on15 hE.ha.kept)
            have C1 := Lib.hid (htNilTouch 1 1 X)
            have C2 := Lib.hid (htNilDecay X)
            have C3 := Lib.hid (htNilForget 1 X)
            generalize sumHt f = ss at *
            clear hE e1 e2 HX HF hlt2
            go_wp2_with fail
            refine C1.out.mono ?_
            rintro e _ ⟨rfl, rfl⟩
            go_wp2_with fail
            refine C2.out.mono ?_
            rintro e _ ⟨rfl, rfl⟩
            go_wp2_with fail
            refine C3.out.mono ?_
            rintro e _ ⟨rfl, rfl⟩
            clear C1 C2 C3
            go_wp2_with fail
            refine CS.out.mono ?_
            rintro e X2 ⟨rfl, kx⟩
            have HKF := Lib.hid (HKE.out.on15 kx)
            have C4 := Lib.hid (htNilOf 1 X2)
            have C5 := Lib.hid (htNilSum X2)
            have C6 := Lib.hid (htNilHot X2)
            clear CS kx HKE
            go_wp2_with fail
            refine C4.out.mono ?_
            rintro e _ ⟨rfl, rfl⟩
            go_wp2_with fail
            refine C5.out.mono ?_
            rintro e _ ⟨rfl, rfl⟩
            go_wp2_with fail
            refine C6.out.mono ?_
            rintro e _ ⟨rfl, rfl⟩
            clear C4 C5 C6
            go_wp2_with fail
            go_ret
            exact ⟨rfl, HKF.out⟩

end Go.Proofs.Ytdbohcdjamhdjaa
