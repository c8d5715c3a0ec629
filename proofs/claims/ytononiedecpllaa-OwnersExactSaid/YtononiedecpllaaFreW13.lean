/- OwnersFree of layer 13: the walk: it returns true for every input and writes nothing that was there. -/
import Derived.Test.YtononiedecpllaaWf13
import Derived.Deep.Cut
import Derived.Deep.CutRange
import Derived.Deep.CutBlock
import Derived.OpenShut
set_option linter.unusedVariables false
namespace Go.Proofs.Ytononiedecpllaa
open Go.RowKit Go.Maps Go.Sort

/-- A book in a law's loop. -/
def Lp13 (w1 : World) (b : Nat) (f h : Int → List Ow) (k : Nat) (W : World) : Prop := Bo w1 b f h (fun _ => False) W ∧ Few f k ∧ Cnt13 f h k

/-- A deed in memory. -/
def BoxA13 (y : Nat) (kd c : Int) (o : Ow) (W : World) : Prop := W.heap[y]? = some (.cells #[.int .i64 kd, .int .i64 c, .int .i64 o.vol, .int .i64 o.bir, .int .i64 o.pos] 33 (0, 0))
theorem BoxA13.cells {y : Nat} {kd c : Int} {o : Ow} {W : World} (h : BoxA13 y kd c o W) : W.cell? ⟨y, 0, none⟩ = some (.int .i64 kd) ∧ W.cell? ⟨y, 1, none⟩ = some (.int .i64 c) ∧ W.cell? ⟨y, 2, none⟩ = some (.int .i64 o.vol) ∧ W.cell? ⟨y, 3, none⟩ = some (.int .i64 o.bir) ∧ W.cell? ⟨y, 4, none⟩ = some (.int .i64 o.pos) := by
  unfold BoxA13 at h
  exact ⟨by simp [World.cell?, h], by simp [World.cell?, h], by simp [World.cell?, h], by simp [World.cell?, h], by simp [World.cell?, h]⟩

/-- What stands in the loop over the chunks. -/
def Fe13 (w1 : World) (b : Nat) (f h : Int → List Ow) (g B n cap : Nat) (ks : List Int) (X : Nat → Prop) (W : World) : Prop :=
  Bo w1 b f h X W ∧ W.ownsRow B 3 1 (.slice (some ⟨g, 0, none⟩) n cap) n (ks.map encZ)
theorem intRow_kept {W W' : World} {B g n cap : Nat} {xs : List Value} (h : W.ownsRow B 3 1 (.slice (some ⟨g, 0, none⟩) n cap) n xs) (hb : W'.heap[g]? = W.heap[g]?) : W'.ownsRow B 3 1 (.slice (some ⟨g, 0, none⟩) n cap) n xs := by
  refine ⟨h.1, ?_⟩
  rcases h.2 with ⟨e, _⟩ | ⟨g', c', cur, e, h1, h2, r⟩
  · cases e
  · simp only [Value.slice.injEq, Option.some.injEq, Addr.mk.injEq, and_true, true_and] at e
    obtain ⟨rfl, rfl⟩ := e
    exact .inr ⟨_, _, cur, rfl, h1, hb.trans h2, r⟩
theorem intRow_blk {W : World} {B g n cap : Nat} {xs : List Value} (h : W.ownsRow B 3 1 (.slice (some ⟨g, 0, none⟩) n cap) n xs) : B ≤ g ∧ g < W.heap.size ∧ n ≤ cap ∧ cap ≤ maxLen := by
  rcases h.2 with ⟨e, _⟩ | ⟨g', c', cur, e, h1, h2, h3, h4, _⟩
  · cases e
  · simp only [Value.slice.injEq, Option.some.injEq, Addr.mk.injEq, and_true, true_and] at e
    obtain ⟨rfl, rfl⟩ := e
    exact ⟨h1, (Array.getElem?_eq_some_iff.1 h2).1, h3, h4⟩

theorem drop_at {l : List Ow} {t : Nat} {x : Ow} (h : l[t]? = some x) : l.drop t = x :: l.drop (t + 1) := by
  obtain ⟨h1, h2⟩ := List.getElem?_eq_some_iff.1 h
  rw [List.drop_eq_getElem_cons h1, h2]
theorem drop_end {l : List Ow} {t m : Nat} (hm : l.length = m) (h : t < m) : decide (l.drop (t + 1) = []) = decide (t + 1 = m) := decide_eq_decide.2 (by
  rw [List.drop_eq_nil_iff, hm]
  omega)
theorem eq_nums (t m : Nat) : (((t : Int) + 1 == (m : Int))) = decide (t + 1 = m) := by
  by_cases h : t + 1 = m
  · rw [decide_eq_true h, beq_iff_eq]; omega
  · rw [decide_eq_false h, beq_eq_false_iff_ne]; omega

set_option maxHeartbeats 16000000 in
set_option maxRecDepth 100000 in
theorem freW13 (a : Option Addr) (len cap : Nat) (o : Ow) (w : World) (w0 : IsActs13 w a len) (_ : True) :
    Calls Try.prog 5 #[.slice a len cap, ownV o] w fun e w' => e = .returned (.bool true) ∧ KeptIn (· < w.heap.size) w w' := by
  have l0 := w0.len_le
  unfold maxLen at l0
  have b0 : (len : Int) ≤ 9223372036854775807 := by omega
  obtain ⟨W0, hW0⟩ : ∃ W, w.alloc (.cells #[.int .i64 o.vol, .int .i64 o.bir, .int .i64 o.pos] 31) = W := ⟨_, rfl⟩
  have k0 : KeptIn (· < w.heap.size) w W0 := by rw [← hW0]; exact (KeptIn.refl _ w).alloc (fun _ h => h) _
  have bo : BoxO w.heap.size o W0 := by rw [← hW0]; exact BoxO.new w o
  have WA := Lib.hid w0
  have HW0 := Lib.hid hW0
  unfold ownV
  clear w0 l0 hW0
  go_enter Try.func5, Try.ntmps5
  go_wp2_with fail
  rw [HW0.out]
  go_wp2_with fail
  refine (awake13 W0).mono ?_
  rintro e W1 ⟨rfl, k1⟩
  have HK1 := Lib.hid (k0.on k1)
  have HBO := Lib.hid (bo.old k1)
  clear k0 k1 bo HW0
  go_wp2_with fail
  refine (owNew W1).mono ?_
  rintro e W2 hN
  unfold NewO at hN
  obtain ⟨b, D, rfl, hb, hk⟩ := hN
  have HI0 : Hid (Lp13 W1 b (fun _ => []) (fun _ => []) 0 W2) := Lib.hid ⟨Bo.new hb hk, fun _ => Nat.le_refl _, [], Nat.le_refl _, fun c hc => (by simp at hc)⟩
  clear hb hk
  go_wp2_with fail
  go_loopw [6, 7, 8, 9, 10, 11] (fun i _ _ _ _ _ wr => ∃ (j : Nat) (V : World) (f h : Int → List Ow), V = wr ∧ j ≤ len ∧ j ≤ 60 ∧ i = .int .i64 (j : Int) ∧ Hid (Lp13 W1 b f h j V)) (fun i _ _ _ _ _ _ => 60 - (intOf i).toNat)
  case atStart => exact ⟨0, _, _, _, rfl, Nat.zero_le _, Nat.zero_le _, rfl, HI0⟩
  case round =>
    obtain ⟨j, V, f, h, rfl, hj, hj1, rfl, HJ⟩ := hrel
    clear HI0
    have d0 : (0 : Int) ≤ (j : Int) := by omega
    by_cases hlt : j < len ∧ j < 60
    · have d1 : (j : Int) < (len : Int) := by omega
      have d2 : (j : Int) < 60 := by omega
      obtain ⟨ab, off, rfl, hab, _, hel⟩ : ∃ b off, a = some ⟨b, off, none⟩ ∧ b < w.heap.size ∧ len ≤ maxLen ∧ _ := WA.out.resolve_left (by omega)
      obtain ⟨kd, c, q, wk, wc, e0, e1, e2, e3, e4⟩ := hel j hlt.1
      have hkw : KeptIn (· < w.heap.size) w V := HK1.out.on HJ.out.1.kept
      have g0 := (World.cell?_of_block (hkw.block ab hab)).trans e0
      have g1 := (World.cell?_of_block (hkw.block ab hab)).trans e1
      have g2 := (World.cell?_of_block (hkw.block ab hab)).trans e2
      have g3 := (World.cell?_of_block (hkw.block ab hab)).trans e3
      have g4 := (World.cell?_of_block (hkw.block ab hab)).trans e4
      rw [Nat.add_zero] at g0
      have hA5 : BoxA13 V.heap.size kd c q (V.alloc (.cells #[.int .i64 kd, .int .i64 c, .int .i64 q.vol, .int .i64 q.bir, .int .i64 q.pos] 33)) := heap_alloc_new V _
      have H5 : Hid (Lp13 W1 b f h j (V.alloc (.cells #[.int .i64 kd, .int .i64 c, .int .i64 q.vol, .int .i64 q.bir, .int .i64 q.pos] 33)) ∧ BoxA13 V.heap.size kd c q (V.alloc (.cells #[.int .i64 kd, .int .i64 c, .int .i64 q.vol, .int .i64 q.bir, .int .i64 q.pos] 33))) :=
        Lib.hid ⟨⟨HJ.out.1.old ((KeptIn.refl _ V).alloc (fun _ h => h) _), HJ.out.2⟩, hA5⟩
      have HWF := Lib.hid (And.intro wk wc)
      clear e0 e1 e2 e3 e4 hel wk wc hA5 HJ hkw hlt
      go_upto_block 2 with fail
      clear g0 g1 g2 g3 g4
      generalize V.alloc (.cells #[.int .i64 kd, .int .i64 c, .int .i64 q.vol, .int .i64 q.bir, .int .i64 q.pos] 33) = W5 at *
      generalize V.heap.size = y at *
      obtain ⟨p0, p1, p2, p3, p4⟩ := H5.out.2.cells
      have bk := bounds_i64 HWF.out.1
      have bc := bounds_i64 HWF.out.2
      go_cut [] from 37 to 122 (fun wx => ∃ (V' : World) (f' h' : Int → List Ow), V' = wx ∧ Hid (Lp13 W1 b f' h' (j + 1) V'))
      case first => -- M:first
        as_aux_lemma =>
          by_cases k1 : kd = 1
          · subst k1
            have C := Lib.hid (H5.out.1.1.add c HWF.out.2 q (H5.out.1.2.1.le (by omega) c))
            unfold ownV at C
            go_wp2_with (go_at_call 8; refine C.out.mono ?_)
            rintro e V2 hD
            obtain ⟨rfl, h3, -⟩ := hD
            have H6 : Hid (Lp13 W1 b (addF f c q) h (j + 1) V2) := Lib.hid ⟨h3, H5.out.1.2.1.add c q, H5.out.1.2.2.add c q⟩
            clear h3 C H5
            go_wp2_with fail
            go_meet
            case rel => exact ⟨_, _, _, rfl, H6⟩
          · by_cases k2 : kd = 2
            · subst k2
              have C := Lib.hid (H5.out.1.1.add c HWF.out.2 q (H5.out.1.2.1.le (by omega) c))
              unfold ownV at C
              go_wp2_with (go_at_call 8; refine C.out.mono ?_)
              rintro e V2 hD
              obtain ⟨rfl, h3, -⟩ := hD
              have H6 : Hid (Lp13 W1 b (addF f c q) h (j + 1) V2) := Lib.hid ⟨h3, H5.out.1.2.1.add c q, H5.out.1.2.2.add c q⟩
              clear h3 C H5
              go_wp2_with fail
              go_meet
              case rel => exact ⟨_, _, _, rfl, H6⟩
            · by_cases k3 : kd = 3
              · subst k3
                have C := Lib.hid (H5.out.1.1.remove c HWF.out.2 q (H5.out.1.2.1.le (by omega) c))
                unfold ownV at C
                go_wp2_with (go_at_call 11; refine C.out.mono ?_)
                rintro e V2 hD
                obtain ⟨rfl, h3, -⟩ := hD
                have H6 : Hid (Lp13 W1 b (remF f c q) h (j + 1) V2) := Lib.hid ⟨h3, (H5.out.1.2.1.rem c q).mono (by omega), H5.out.1.2.2.rem c q⟩
                clear h3 C H5
                go_wp2_with fail
                go_meet
                case rel => exact ⟨_, _, _, rfl, H6⟩
              · have b1 : (kd == 1) = false := by rw [beq_eq_false_iff_ne]; exact k1
                have b2 : (kd == 2) = false := by rw [beq_eq_false_iff_ne]; exact k2
                have b3 : (kd == 3) = false := by rw [beq_eq_false_iff_ne]; exact k3
                have C := Lib.hid H5.out.1.1.commit
                go_wp2_with (go_at_call 14; refine C.out.mono ?_)
                rintro e V2 hD
                obtain ⟨rfl, h3, -⟩ := hD
                have H6 : Hid (Lp13 W1 b f f (j + 1) V2) := Lib.hid ⟨h3, H5.out.1.2.1.mono (by omega), H5.out.1.2.2.com⟩
                clear h3 C H5
                go_wp2_with fail
                go_meet
                case rel => exact ⟨_, _, _, rfl, H6⟩
      case rest => -- M:rest
        as_aux_lemma =>
          obtain ⟨V', f', h', rfl, HJ2⟩ := hcut
          clear H5 p0 p1 p2 p3 p4 bk bc HWF WA
          obtain ⟨m, hm, m1, m2, hf, hh, hlow⟩ := HJ2.out.2.2.free (by omega)
          have mi1 : (1 : Int) ≤ (m : Int) := by omega
          have mi2 : (m : Int) ≤ 1023 := by omega
          have mi3 : ¬ (m : Int) < 1 := by omega
          have wm := ch_wf (m : Int) mi1 mi2
          have HC := Lib.hid fun (c : Int) (hc : (Lit.int .i64 c).wf = true) => HJ2.out.1.count c hc
          have HW := Lib.hid fun (c : Int) (hc : (Lit.int .i64 c).wf = true) => HJ2.out.1.was c hc
          have HF := Lib.hid HJ2.out.1.free
          have C1 := Lib.hid (HC.out _ wm)
          have C2 := Lib.hid (HW.out _ wm)
          rw [hm] at HF
          rw [hf] at C1
          rw [hh] at C2
          simp only [List.length_nil] at C1 C2
          have HM := Lib.hid (And.intro m1 (And.intro m2 (And.intro hf (And.intro hh (And.intro hlow (And.intro wm hm))))))
          clear hm hf hh hlow wm m1 m2
          go_wp2_with (first | (go_at_call 20; refine HF.out.mono ?_; rintro e _ ⟨rfl, rfl⟩) | (go_at_call 16; refine C1.out.mono ?_; rintro e _ ⟨rfl, rfl⟩) | (go_at_call 19; refine C2.out.mono ?_; rintro e _ ⟨rfl, rfl⟩))
          clear C1 C2
          go_loopw [9] (fun k wr => ∃ (t : Nat) (X : World), X = wr ∧ wr = V' ∧ 1 ≤ t ∧ t ≤ m ∧ k = .int .i64 (t : Int)) (fun k _ => m - (intOf k).toNat)
          case atStart => exact ⟨1, _, rfl, by trivial, Nat.le_refl _, HM.out.1, rfl⟩
          case round =>
            obtain ⟨t, X, rfl, rfl, ht1, htm, rfl⟩ := hrel
            by_cases hlt : t < m
            · have e1 : (t : Int) < (m : Int) := by omega
              have e2 : (t : Int) ≤ 1023 := by omega
              have wt := ch_wf (t : Int) (by omega) (by omega)
              have hnf := HM.out.2.2.2.2.1 (t : Int) (by omega) e1
              have C1 := Lib.hid (HC.out _ wt)
              have C2 := Lib.hid (HW.out _ wt)
              obtain ⟨x1, hx1⟩ : ∃ x1, (f' (t : Int)).length = x1 := ⟨_, rfl⟩
              obtain ⟨x2, hx2⟩ : ∃ x2, (h' (t : Int)).length = x2 := ⟨_, rfl⟩
              rw [hx1] at C1
              rw [hx2] at C2
              by_cases hz : x1 = 0
              · have hz2 : 0 < x2 := Nat.pos_of_ne_zero fun h0 => hnf ⟨List.length_eq_zero_iff.1 (hx1.trans hz), List.length_eq_zero_iff.1 (hx2.trans h0)⟩
                rw [decide_eq_true hz2] at C2
                subst hz
                clear hnf hx1 hx2 wt hz2
                go_wp2_with (first | (go_at_call 16; refine C1.out.mono ?_; rintro e _ ⟨rfl, rfl⟩) | (go_at_call 19; refine C2.out.mono ?_; rintro e _ ⟨rfl, rfl⟩))
                go_roundw
                case rel => exact ⟨t + 1, _, rfl, by trivial, by omega, by omega, by go_num⟩
                case measure => simp [intOf]; omega
              · have z1 : ((x1 : Int) == 0) = false := by rw [beq_eq_false_iff_ne]; omega
                have z2 : (x1 == 0) = false := by rw [beq_eq_false_iff_ne]; exact hz
                clear hnf hx1 hx2 wt C2
                go_wp2_with (first | (go_at_call 16; refine C1.out.mono ?_; rintro e _ ⟨rfl, rfl⟩))
                go_roundw
                case rel => exact ⟨t + 1, _, rfl, by trivial, by omega, by omega, by go_num⟩
                case measure => simp [intOf]; omega
            · obtain rfl : t = m := by omega
              clear hlt ht1 htm HC HW HF mi3
              obtain ⟨e1, e2, e3, e4, e5, e6⟩ := take_free (h := h') o HM.out.1 HM.out.2.1 HM.out.2.2.1 HM.out.2.2.2.1
              have hfew := HJ2.out.2.1
              have CA := Lib.hid (HJ2.out.1.add (t : Int) HM.out.2.2.2.2.2.1 o (hfew.le (by omega) _))
              rw [e1, e2] at CA
              unfold ownV at CA
              have hE := Lib.hid (And.intro e3 (And.intro e4 (And.intro e5 e6)))
              obtain ⟨o0, o1, o2⟩ := (HBO.out.old HJ2.out.1.kept).cells
              clear e1 e2 e3 e4 e5 e6 hfew
              go_wp2_with (go_at_call 8; refine CA.out.mono ?_)
              rintro e W6 hD
              obtain ⟨rfl, h6, -⟩ := hD
              have H6 := Lib.hid h6
              have CL := Lib.hid (H6.out.alone (t : Int) HM.out.2.2.2.2.2.1 o)
              rw [hE.out.1] at CL
              unfold ownV at CL
              clear CA h6 o0 o1 o2
              obtain ⟨o0, o1, o2⟩ := (HBO.out.old H6.out.kept).cells
              go_wp2_with (go_at_call 17; refine CL.out.mono ?_)
              rintro e W7 ⟨rfl, k7⟩
              have H7 := Lib.hid (H6.out.old k7)
              have CF := Lib.hid H7.out.free
              obtain ⟨s, hs⟩ : ∃ s, freeN (setF f' (t : Int) [o]) h' = s := ⟨_, rfl⟩
              rw [hs] at CF
              have z1 : (s == (t : Int)) = false := by rw [beq_eq_false_iff_ne, ← hs]; exact hE.out.2.2.2
              clear H6 CL k7 hs o0 o1 o2
              obtain ⟨o0, o1, o2⟩ := (HBO.out.old H7.out.kept).cells
              have CR := Lib.hid (H7.out.remove (t : Int) HM.out.2.2.2.2.2.1 o (by rw [setF_same]; simp))
              rw [hE.out.2.1, hE.out.2.2.1] at CR
              unfold ownV at CR
              dsimp only at CR
              go_wp2_with (first | (go_at_call 20; refine CF.out.mono ?_; rintro e _ ⟨rfl, rfl⟩) | (go_at_call 11; refine CR.out.mono ?_))
              rintro e W8 hD
              obtain ⟨rfl, h8, -⟩ := hD
              have H8 : Hid (Lp13 W1 b f' h' (j + 1) W8) := Lib.hid ⟨h8, HJ2.out.2⟩
              have CG := Lib.hid h8.free
              rw [HM.out.2.2.2.2.2.2] at CG
              clear h8 CF CR H7 HJ2 o0 o1 o2 z1 hE
              go_wp2_with (go_at_call 20; refine CG.out.mono ?_; rintro e _ ⟨rfl, rfl⟩)
              go_roundw
              case rel => exact ⟨j + 1, _, _, _, rfl, by omega, by omega, by go_num, H8⟩
              case measure => simp [intOf]; omega
    · -- M:end
      have HK : Hid (KeptIn (· < w.heap.size) w W1) := HK1
      by_cases hl2 : j < len
      · have d1 : (j : Int) < (len : Int) := by omega
        have d2 : ¬ (j : Int) < 60 := by omega
        clear hlt hl2
        have C := Lib.hid HJ.out.1.chunks
        have HR := Lib.hid (And.intro HJ.out.1.ran (HJ.out.2.1.mono hj1))
        go_wp2_with (go_at_call 22; refine C.out.mono ?_)
        rintro e Y hC
        obtain ⟨v, rfl, hr, hk⟩ := hC
        obtain ⟨ks, hks⟩ : ∃ ks, keysO f = ks := ⟨_, rfl⟩
        obtain ⟨n, hn⟩ : ∃ n, ks.length = n := ⟨_, rfl⟩
        rw [hks, hn] at hr
        have hn24 : n ≤ 1024 := by rw [← hn, ← hks]; exact upTo_length _ _
        have hall : clr f ks n = fun _ => [] := by rw [← hn, ← hks]; exact clr_all HR.out.1
        have hnd : ks.Nodup := by rw [← hks]; exact keysO_nodup f
        have hmem : ∀ c, c ∈ ks → f c ≠ [] := fun c hc => (keysO_mem (by rw [hks]; exact hc)).2.2
        have HN := Lib.hid (And.intro hall (And.intro hnd (And.intro hmem hn)))
        have ni : (n : Int) ≤ 1024 := by omega
        clear C hks hall hnd hmem hn
        rcases hr.2 with ⟨rfl, hn0⟩ | ⟨g, cp, cur, rfl, hg1, hg2, hg3, hg4, hg5, hg6⟩
        · subst hn0
          have hbo : Bo W1 b (fun _ => []) h (fun _ => False) Y := by
            have := HJ.out.1.old hk
            rw [← HN.out.1, clr_zero]
            exact this
          have HE := Lib.hid hbo
          clear hr hk hbo HJ HR
          go_wp2_with fail
          go_loopw [13, 14, 15, 16, 17] (fun i _ _ _ _ wr => ∃ (Z : World), Z = wr ∧ wr = Y ∧ i = .int .i64 (0 : Int)) (fun _ _ _ _ _ _ => 0)
          case atStart => exact ⟨_, rfl, by trivial, rfl⟩
          case round =>
            obtain ⟨Z, rfl, rfl, rfl⟩ := hrel
            have CC := Lib.hid HE.out.commit
            go_wp2_with (go_at_call 14; refine CC.out.mono ?_)
            rintro e Y2 hD
            obtain ⟨rfl, h2, -⟩ := hD
            have H2 := Lib.hid h2
            have CF := Lib.hid H2.out.free
            have CK := Lib.hid H2.out.chunks
            rw [free_none] at CF
            clear CC h2 HE
            go_wp2_with (go_at_call 20; refine CF.out.mono ?_; rintro e _ ⟨rfl, rfl⟩)
            refine CK.out.mono ?_
            rintro e Y3 hC
            obtain ⟨v, rfl, hr, hk⟩ := hC
            rw [keysO_none] at hr
            obtain ⟨a9, cap9, rfl⟩ := lenRow hr
            have HKE := Lib.hid (HK.out.on (H2.out.kept.trans (hk.mono fun k h => Nat.lt_of_lt_of_le h H2.out.kept.size)))
            clear hr hk CF CK H2
            go_wp2_with fail
            go_ret
            exact ⟨rfl, HKE.out⟩
        · have hgl : g < Y.heap.size := (Array.getElem?_eq_some_iff.1 hg2).1
          have hE0 : Hid (Fe13 W1 b (clr f ks 0) h g V.heap.size n cp ks (fun k => k = g) Y) := Lib.hid ⟨by
            rw [clr_zero]
            exact HJ.out.1.more hk (fun k => k = g) (fun k hk' => .inr (by rw [hk']; exact ⟨hg1, hgl⟩)), hr⟩
          have cpi : (n : Int) ≤ (cp : Int) := by omega
          clear hr hk hg1 hg2 hg4 hg5 hg6 hgl HJ
          go_wp2_with fail
          go_loopw [13, 14, 15, 16, 17] (fun i _ _ _ _ wr => ∃ (t : Nat) (Z : World), Z = wr ∧ t ≤ n ∧ i = .int .i64 (t : Int) ∧ Hid (Fe13 W1 b (clr f ks t) h g V.heap.size n cp ks (fun k => k = g) Z)) (fun i _ _ _ _ _ => n - (intOf i).toNat)
          case atStart => exact ⟨0, _, rfl, Nat.zero_le _, rfl, hE0⟩
          case round =>
            obtain ⟨t, Z, rfl, htn, rfl, HZ⟩ := hrel
            clear hE0
            by_cases htl : t < n
            · have t1 : (t : Int) < (n : Int) := by omega
              have t2 : (0 : Int) ≤ (t : Int) := by omega
              obtain ⟨c, hc⟩ : ∃ c, ks[t]? = some c := ⟨_, List.getElem?_eq_getElem (by rw [HN.out.2.2.2]; exact htl)⟩
              have hcm := List.mem_of_getElem? hc
              have hfc : clr f ks t c = f c := clr_at HN.out.2.1 hc
              obtain ⟨c1, c2⟩ := HR.out.1 c (HN.out.2.2.1 c hcm)
              have wc := ch_wf c c1 c2
              obtain ⟨l, hl⟩ : ∃ l, f c = l := ⟨_, rfl⟩
              obtain ⟨m, hm⟩ : ∃ m, l.length = m := ⟨_, rfl⟩
              have hl0 : l ≠ [] := by rw [← hl]; exact HN.out.2.2.1 c hcm
              have hm60 : m ≤ 60 := by rw [← hm, ← hl]; exact HR.out.2 c
              obtain ⟨ga, ca, ea, _, _, ha⟩ := intRow_at HZ.out.2 hc
              simp only [Value.slice.injEq, Option.some.injEq, Addr.mk.injEq, and_true, true_and] at ea
              obtain ⟨rfl, -⟩ := ea
              have CL := Lib.hid (HZ.out.1.list c wc (by rw [hfc, hl, hm]; omega))
              rw [hfc, hl] at CL
              have HX := Lib.hid (And.intro hc (And.intro (hfc.trans hl) (And.intro hl0 (clr_succ (f := f) hc))))
              have HL := Lib.hid (And.intro hm (And.intro hm60 wc))
              have mi : (m : Int) ≤ 60 := by omega
              clear hc hcm hfc c1 c2 wc hl hm hl0 hm60 htl
              go_wp2_with (go_at_call 15; refine CL.out.mono ?_)
              rintro e U0 hC
              obtain ⟨v2, rfl, hr2, hk2⟩ := hC
              obtain ⟨g2, cp2, cur2, rfl, hg21, hg22, hg23, hg24, hg25, hg26⟩ : ∃ g cap cur, v2 = .slice (some ⟨g, 0, none⟩) l.length cap ∧ Z.heap.size ≤ g ∧ U0.heap[g]? = some (.cells cur 31 (0, 0)) ∧ l.length ≤ cap ∧ cap ≤ maxLen ∧ cur.size = cap * 3 ∧ cur.toList.take (l.length * 3) = cellsO l := hr2.form.resolve_left fun h0 => HX.out.2.2.1 h0.2
              have hg2l : g2 < U0.heap.size := (Array.getElem?_eq_some_iff.1 hg22).1
              have hglt := (intRow_blk HZ.out.2).2.1
              rw [HL.out.1] at hr2 hg23 ⊢
              have hm2 : (m : Int) ≤ (cp2 : Int) := by omega
              have HU0 : Hid (Bo W1 b (setF (clr f ks t) c (l.drop 0)) h (fun k => k = g ∨ k = g2) U0 ∧ U0.ownsRow V.heap.size 3 1 (.slice (some ⟨g, 0, none⟩) n cp) n (ks.map encZ) ∧ RowO U0 Z.heap.size (.slice (some ⟨g2, 0, none⟩) m cp2) l) := Lib.hid ⟨by
                rw [List.drop_zero, ← HX.out.2.1, setF_self]
                exact HZ.out.1.more hk2 _ (fun k hk' => hk'.imp (fun e => e) (fun e => by rw [e]; exact ⟨hg21, hg2l⟩)), intRow_kept HZ.out.2 (hk2.block g hglt), hr2⟩
              clear hr2 hk2 hg21 hg22 hg24 hg25 hg26 hg2l hglt CL ha HZ
              go_wp2_with fail
              go_loopw [15, 16, 17] (fun k _ _ wr => ∃ (s : Nat) (U : World), U = wr ∧ s ≤ m ∧ k = .int .i64 (s : Int) ∧ Hid (Bo W1 b (setF (clr f ks t) c (l.drop s)) h (fun k => k = g ∨ k = g2) U ∧ U.ownsRow V.heap.size 3 1 (.slice (some ⟨g, 0, none⟩) n cp) n (ks.map encZ) ∧ RowO U Z.heap.size (.slice (some ⟨g2, 0, none⟩) m cp2) l)) (fun k _ _ _ => m - (intOf k).toNat)
              case atStart => exact ⟨0, _, rfl, Nat.zero_le _, rfl, HU0⟩
              case round =>
                obtain ⟨s, U, rfl, hsm, rfl, HU⟩ := hrel
                clear HU0
                by_cases hsl : s < m
                · have s1 : (s : Int) < (m : Int) := by omega
                  have s2 : (0 : Int) ≤ (s : Int) := by omega
                  have s3 : ((s : Int) + 1 == (m : Int)) = decide (s + 1 = m) := eq_nums s m
                  obtain ⟨x, hx⟩ : ∃ x, l[s]? = some x := ⟨_, List.getElem?_eq_getElem (by rw [HL.out.1]; exact hsl)⟩
                  have hdr := drop_at hx
                  have hre := rem_head (setF (clr f ks t) c (l.drop s)) c x (l.drop (s + 1)) (by rw [setF_same, hdr])
                  rw [setF_setF, drop_end HL.out.1 hsl] at hre
                  have k0 : KeptIn (· < U.heap.size) U U.drew := (KeptIn.refl _ _).drew
                  have CR := Lib.hid ((HU.out.1.old k0).remove c HL.out.2.2 x (by
                    rw [setF_same, List.length_drop]
                    have := HL.out.1
                    omega))
                  rw [hre.1, hre.2] at CR
                  unfold ownV at CR
                  dsimp only at CR
                  have HF : Hid (∀ Q, KeptIn (fun k => k = g ∨ k = g2) U Q → Q.cell? ⟨g, t, none⟩ = some (.int .i64 c) ∧ Q.cell? ⟨g2, s * 3, none⟩ = some (.int .i64 x.vol) ∧ Q.cell? ⟨g2, s * 3 + 1, none⟩ = some (.int .i64 x.bir) ∧ Q.cell? ⟨g2, s * 3 + 2, none⟩ = some (.int .i64 x.pos)) := Lib.hid fun Q hq => by
                    obtain ⟨ga, ca, ea, _, _, ha⟩ := intRow_at (intRow_kept HU.out.2.1 (hq.block g (.inl rfl))) HX.out.1
                    simp only [Value.slice.injEq, Option.some.injEq, Addr.mk.injEq, and_true, true_and] at ea
                    obtain ⟨rfl, -⟩ := ea
                    obtain ⟨gb, eb, _, hb1, hb2, hb3⟩ := (HU.out.2.2.kept hq (fun gz hz => by
                      obtain rfl : g2 = gz := by simpa [Value.ownBlock] using hz
                      exact .inr rfl)).at hx
                    simp only [Option.some.injEq, Addr.mk.injEq, and_true] at eb
                    subst eb
                    exact ⟨ha, hb1, hb2, hb3⟩
                  have HS : Hid (∀ Q, Bo W1 b (setF (clr f ks t) c (l.drop (s + 1))) h (fun k => k = g ∨ k = g2) Q → KeptIn (fun k => k = g ∨ k = g2) U Q → Bo W1 b (setF (clr f ks t) c (l.drop (s + 1))) h (fun k => k = g ∨ k = g2) Q ∧ Q.ownsRow V.heap.size 3 1 (.slice (some ⟨g, 0, none⟩) n cp) n (ks.map encZ) ∧ RowO Q Z.heap.size (.slice (some ⟨g2, 0, none⟩) m cp2) l) := Lib.hid fun Q hq1 hq2 =>
                    ⟨hq1, intRow_kept HU.out.2.1 (hq2.block g (.inl rfl)), HU.out.2.2.kept hq2 fun gz hz => by
                      obtain rfl : g2 = gz := by simpa [Value.ownBlock] using hz
                      exact .inr rfl⟩
                  obtain ⟨y0, y1, y2, y3⟩ := HF.out _ ((KeptIn.refl _ U).drew)
                  clear hx hdr hre k0 HU hsl
                  go_wp2_with fail
                  go_region_held3 (fun Q => Q.cell? ⟨g, t, none⟩ = some (.int .i64 c) ∧ Q.cell? ⟨g2, s * 3, none⟩ = some (.int .i64 x.vol) ∧ Q.cell? ⟨g2, s * 3 + 1, none⟩ = some (.int .i64 x.bir) ∧ Q.cell? ⟨g2, s * 3 + 2, none⟩ = some (.int .i64 x.pos))
                    (first | exact ⟨y0, y1, y2, y3⟩ | exact HF.out _ ((KeptIn.refl _ U).drew.trans hq2) | go_keep)
                    (first | (go_at_call 11; refine CR.out.mono ?_; rintro e U2 hD; obtain ⟨rfl, hq1, hq2⟩ := hD))
                  all_goals
                    have HU2 := Lib.hid (HS.out _ hq1 ((KeptIn.refl _ U).drew.trans hq2))
                    clear CR HF HS hq1 hq2 y0 y1 y2 y3
                    obtain ⟨bb, hbb⟩ : ∃ bb, decide (s + 1 = m) = bb := ⟨_, rfl⟩
                    rw [hbb] at s3
                    try simp only [hbb]
                    clear hbb
                    cases bb
                    · go_wp2_with fail
                      go_roundw
                      case rel => exact ⟨s + 1, _, rfl, by omega, by go_num, HU2⟩
                      case measure => simp [intOf]; omega
                    · go_wp2_with fail
                      go_roundw
                      case rel => exact ⟨s + 1, _, rfl, by omega, by go_num, HU2⟩
                      case measure => simp [intOf]; omega
                · obtain rfl : s = m := by omega
                  have hdn : l.drop s = [] := List.drop_eq_nil_iff.2 (by rw [HL.out.1]; exact Nat.le_refl _)
                  have hbo := HU.out.1
                  rw [hdn, HX.out.2.2.2] at hbo
                  have HZ2 : Hid (Fe13 W1 b (clr f ks (t + 1)) h g V.heap.size n cp ks (fun k => k = g) U) := Lib.hid ⟨hbo.weak _ fun k hk' => .inl hk', HU.out.2.1⟩
                  have s1 : ¬ (s : Int) < (s : Int) := by omega
                  clear hdn hbo HU hsl HL HX
                  go_wp2_with fail
                  go_roundw
                  case rel => exact ⟨t + 1, _, rfl, by omega, by go_num, HZ2⟩
                  case measure => simp [intOf]; omega
            · obtain rfl : t = n := by omega
              have t1 : ¬ (t : Int) < (t : Int) := by omega
              have hbo := HZ.out.1
              rw [HN.out.1] at hbo
              have HE := Lib.hid hbo
              clear HZ hbo htl HR
              have CC := Lib.hid HE.out.commit
              go_wp2_with (go_at_call 14; refine CC.out.mono ?_)
              rintro e Y2 hD
              obtain ⟨rfl, h2, -⟩ := hD
              have H2 := Lib.hid h2
              have CF := Lib.hid H2.out.free
              have CK := Lib.hid H2.out.chunks
              rw [free_none] at CF
              clear CC h2 HE
              go_wp2_with (go_at_call 20; refine CF.out.mono ?_; rintro e _ ⟨rfl, rfl⟩)
              refine CK.out.mono ?_
              rintro e Y3 hC
              obtain ⟨v, rfl, hr, hk⟩ := hC
              rw [keysO_none] at hr
              obtain ⟨a9, cap9, rfl⟩ := lenRow hr
              have HKE := Lib.hid (HK.out.on (H2.out.kept.trans (hk.mono fun k h => Nat.lt_of_lt_of_le h H2.out.kept.size)))
              clear hr hk CF CK H2
              go_wp2_with fail
              go_ret
              exact ⟨rfl, HKE.out⟩
      · have d1 : ¬ (j : Int) < (len : Int) := by omega
        clear hlt hl2
        have C := Lib.hid HJ.out.1.chunks
        have HR := Lib.hid (And.intro HJ.out.1.ran (HJ.out.2.1.mono hj1))
        go_wp2_with (go_at_call 22; refine C.out.mono ?_)
        rintro e Y hC
        obtain ⟨v, rfl, hr, hk⟩ := hC
        obtain ⟨ks, hks⟩ : ∃ ks, keysO f = ks := ⟨_, rfl⟩
        obtain ⟨n, hn⟩ : ∃ n, ks.length = n := ⟨_, rfl⟩
        rw [hks, hn] at hr
        have hn24 : n ≤ 1024 := by rw [← hn, ← hks]; exact upTo_length _ _
        have hall : clr f ks n = fun _ => [] := by rw [← hn, ← hks]; exact clr_all HR.out.1
        have hnd : ks.Nodup := by rw [← hks]; exact keysO_nodup f
        have hmem : ∀ c, c ∈ ks → f c ≠ [] := fun c hc => (keysO_mem (by rw [hks]; exact hc)).2.2
        have HN := Lib.hid (And.intro hall (And.intro hnd (And.intro hmem hn)))
        have ni : (n : Int) ≤ 1024 := by omega
        clear C hks hall hnd hmem hn
        rcases hr.2 with ⟨rfl, hn0⟩ | ⟨g, cp, cur, rfl, hg1, hg2, hg3, hg4, hg5, hg6⟩
        · subst hn0
          have hbo : Bo W1 b (fun _ => []) h (fun _ => False) Y := by
            have := HJ.out.1.old hk
            rw [← HN.out.1, clr_zero]
            exact this
          have HE := Lib.hid hbo
          clear hr hk hbo HJ HR
          go_wp2_with fail
          go_loopw [13, 14, 15, 16, 17] (fun i _ _ _ _ wr => ∃ (Z : World), Z = wr ∧ wr = Y ∧ i = .int .i64 (0 : Int)) (fun _ _ _ _ _ _ => 0)
          case atStart => exact ⟨_, rfl, by trivial, rfl⟩
          case round =>
            obtain ⟨Z, rfl, rfl, rfl⟩ := hrel
            have CC := Lib.hid HE.out.commit
            go_wp2_with (go_at_call 14; refine CC.out.mono ?_)
            rintro e Y2 hD
            obtain ⟨rfl, h2, -⟩ := hD
            have H2 := Lib.hid h2
            have CF := Lib.hid H2.out.free
            have CK := Lib.hid H2.out.chunks
            rw [free_none] at CF
            clear CC h2 HE
            go_wp2_with (go_at_call 20; refine CF.out.mono ?_; rintro e _ ⟨rfl, rfl⟩)
            refine CK.out.mono ?_
            rintro e Y3 hC
            obtain ⟨v, rfl, hr, hk⟩ := hC
            rw [keysO_none] at hr
            obtain ⟨a9, cap9, rfl⟩ := lenRow hr
            have HKE := Lib.hid (HK.out.on (H2.out.kept.trans (hk.mono fun k h => Nat.lt_of_lt_of_le h H2.out.kept.size)))
            clear hr hk CF CK H2
            go_wp2_with fail
            go_ret
            exact ⟨rfl, HKE.out⟩
        · have hgl : g < Y.heap.size := (Array.getElem?_eq_some_iff.1 hg2).1
          have hE0 : Hid (Fe13 W1 b (clr f ks 0) h g V.heap.size n cp ks (fun k => k = g) Y) := Lib.hid ⟨by
            rw [clr_zero]
            exact HJ.out.1.more hk (fun k => k = g) (fun k hk' => .inr (by rw [hk']; exact ⟨hg1, hgl⟩)), hr⟩
          have cpi : (n : Int) ≤ (cp : Int) := by omega
          clear hr hk hg1 hg2 hg4 hg5 hg6 hgl HJ
          go_wp2_with fail
          go_loopw [13, 14, 15, 16, 17] (fun i _ _ _ _ wr => ∃ (t : Nat) (Z : World), Z = wr ∧ t ≤ n ∧ i = .int .i64 (t : Int) ∧ Hid (Fe13 W1 b (clr f ks t) h g V.heap.size n cp ks (fun k => k = g) Z)) (fun i _ _ _ _ _ => n - (intOf i).toNat)
          case atStart => exact ⟨0, _, rfl, Nat.zero_le _, rfl, hE0⟩
          case round =>
            obtain ⟨t, Z, rfl, htn, rfl, HZ⟩ := hrel
            clear hE0
            by_cases htl : t < n
            · have t1 : (t : Int) < (n : Int) := by omega
              have t2 : (0 : Int) ≤ (t : Int) := by omega
              obtain ⟨c, hc⟩ : ∃ c, ks[t]? = some c := ⟨_, List.getElem?_eq_getElem (by rw [HN.out.2.2.2]; exact htl)⟩
              have hcm := List.mem_of_getElem? hc
              have hfc : clr f ks t c = f c := clr_at HN.out.2.1 hc
              obtain ⟨c1, c2⟩ := HR.out.1 c (HN.out.2.2.1 c hcm)
              have wc := ch_wf c c1 c2
              obtain ⟨l, hl⟩ : ∃ l, f c = l := ⟨_, rfl⟩
              obtain ⟨m, hm⟩ : ∃ m, l.length = m := ⟨_, rfl⟩
              have hl0 : l ≠ [] := by rw [← hl]; exact HN.out.2.2.1 c hcm
              have hm60 : m ≤ 60 := by rw [← hm, ← hl]; exact HR.out.2 c
              obtain ⟨ga, ca, ea, _, _, ha⟩ := intRow_at HZ.out.2 hc
              simp only [Value.slice.injEq, Option.some.injEq, Addr.mk.injEq, and_true, true_and] at ea
              obtain ⟨rfl, -⟩ := ea
              have CL := Lib.hid (HZ.out.1.list c wc (by rw [hfc, hl, hm]; omega))
              rw [hfc, hl] at CL
              have HX := Lib.hid (And.intro hc (And.intro (hfc.trans hl) (And.intro hl0 (clr_succ (f := f) hc))))
              have HL := Lib.hid (And.intro hm (And.intro hm60 wc))
              have mi : (m : Int) ≤ 60 := by omega
              clear hc hcm hfc c1 c2 wc hl hm hl0 hm60 htl
              go_wp2_with (go_at_call 15; refine CL.out.mono ?_)
              rintro e U0 hC
              obtain ⟨v2, rfl, hr2, hk2⟩ := hC
              obtain ⟨g2, cp2, cur2, rfl, hg21, hg22, hg23, hg24, hg25, hg26⟩ : ∃ g cap cur, v2 = .slice (some ⟨g, 0, none⟩) l.length cap ∧ Z.heap.size ≤ g ∧ U0.heap[g]? = some (.cells cur 31 (0, 0)) ∧ l.length ≤ cap ∧ cap ≤ maxLen ∧ cur.size = cap * 3 ∧ cur.toList.take (l.length * 3) = cellsO l := hr2.form.resolve_left fun h0 => HX.out.2.2.1 h0.2
              have hg2l : g2 < U0.heap.size := (Array.getElem?_eq_some_iff.1 hg22).1
              have hglt := (intRow_blk HZ.out.2).2.1
              rw [HL.out.1] at hr2 hg23 ⊢
              have hm2 : (m : Int) ≤ (cp2 : Int) := by omega
              have HU0 : Hid (Bo W1 b (setF (clr f ks t) c (l.drop 0)) h (fun k => k = g ∨ k = g2) U0 ∧ U0.ownsRow V.heap.size 3 1 (.slice (some ⟨g, 0, none⟩) n cp) n (ks.map encZ) ∧ RowO U0 Z.heap.size (.slice (some ⟨g2, 0, none⟩) m cp2) l) := Lib.hid ⟨by
                rw [List.drop_zero, ← HX.out.2.1, setF_self]
                exact HZ.out.1.more hk2 _ (fun k hk' => hk'.imp (fun e => e) (fun e => by rw [e]; exact ⟨hg21, hg2l⟩)), intRow_kept HZ.out.2 (hk2.block g hglt), hr2⟩
              clear hr2 hk2 hg21 hg22 hg24 hg25 hg26 hg2l hglt CL ha HZ
              go_wp2_with fail
              go_loopw [15, 16, 17] (fun k _ _ wr => ∃ (s : Nat) (U : World), U = wr ∧ s ≤ m ∧ k = .int .i64 (s : Int) ∧ Hid (Bo W1 b (setF (clr f ks t) c (l.drop s)) h (fun k => k = g ∨ k = g2) U ∧ U.ownsRow V.heap.size 3 1 (.slice (some ⟨g, 0, none⟩) n cp) n (ks.map encZ) ∧ RowO U Z.heap.size (.slice (some ⟨g2, 0, none⟩) m cp2) l)) (fun k _ _ _ => m - (intOf k).toNat)
              case atStart => exact ⟨0, _, rfl, Nat.zero_le _, rfl, HU0⟩
              case round =>
                obtain ⟨s, U, rfl, hsm, rfl, HU⟩ := hrel
                clear HU0
                by_cases hsl : s < m
                · have s1 : (s : Int) < (m : Int) := by omega
                  have s2 : (0 : Int) ≤ (s : Int) := by omega
                  have s3 : ((s : Int) + 1 == (m : Int)) = decide (s + 1 = m) := eq_nums s m
                  obtain ⟨x, hx⟩ : ∃ x, l[s]? = some x := ⟨_, List.getElem?_eq_getElem (by rw [HL.out.1]; exact hsl)⟩
                  have hdr := drop_at hx
                  have hre := rem_head (setF (clr f ks t) c (l.drop s)) c x (l.drop (s + 1)) (by rw [setF_same, hdr])
                  rw [setF_setF, drop_end HL.out.1 hsl] at hre
                  have k0 : KeptIn (· < U.heap.size) U U.drew := (KeptIn.refl _ _).drew
                  have CR := Lib.hid ((HU.out.1.old k0).remove c HL.out.2.2 x (by
                    rw [setF_same, List.length_drop]
                    have := HL.out.1
                    omega))
                  rw [hre.1, hre.2] at CR
                  unfold ownV at CR
                  dsimp only at CR
                  have HF : Hid (∀ Q, KeptIn (fun k => k = g ∨ k = g2) U Q → Q.cell? ⟨g, t, none⟩ = some (.int .i64 c) ∧ Q.cell? ⟨g2, s * 3, none⟩ = some (.int .i64 x.vol) ∧ Q.cell? ⟨g2, s * 3 + 1, none⟩ = some (.int .i64 x.bir) ∧ Q.cell? ⟨g2, s * 3 + 2, none⟩ = some (.int .i64 x.pos)) := Lib.hid fun Q hq => by
                    obtain ⟨ga, ca, ea, _, _, ha⟩ := intRow_at (intRow_kept HU.out.2.1 (hq.block g (.inl rfl))) HX.out.1
                    simp only [Value.slice.injEq, Option.some.injEq, Addr.mk.injEq, and_true, true_and] at ea
                    obtain ⟨rfl, -⟩ := ea
                    obtain ⟨gb, eb, _, hb1, hb2, hb3⟩ := (HU.out.2.2.kept hq (fun gz hz => by
                      obtain rfl : g2 = gz := by simpa [Value.ownBlock] using hz
                      exact .inr rfl)).at hx
                    simp only [Option.some.injEq, Addr.mk.injEq, and_true] at eb
                    subst eb
                    exact ⟨ha, hb1, hb2, hb3⟩
                  have HS : Hid (∀ Q, Bo W1 b (setF (clr f ks t) c (l.drop (s + 1))) h (fun k => k = g ∨ k = g2) Q → KeptIn (fun k => k = g ∨ k = g2) U Q → Bo W1 b (setF (clr f ks t) c (l.drop (s + 1))) h (fun k => k = g ∨ k = g2) Q ∧ Q.ownsRow V.heap.size 3 1 (.slice (some ⟨g, 0, none⟩) n cp) n (ks.map encZ) ∧ RowO Q Z.heap.size (.slice (some ⟨g2, 0, none⟩) m cp2) l) := Lib.hid fun Q hq1 hq2 =>
                    ⟨hq1, intRow_kept HU.out.2.1 (hq2.block g (.inl rfl)), HU.out.2.2.kept hq2 fun gz hz => by
                      obtain rfl : g2 = gz := by simpa [Value.ownBlock] using hz
                      exact .inr rfl⟩
                  obtain ⟨y0, y1, y2, y3⟩ := HF.out _ ((KeptIn.refl _ U).drew)
                  clear hx hdr hre k0 HU hsl
                  go_wp2_with fail
                  go_region_held3 (fun Q => Q.cell? ⟨g, t, none⟩ = some (.int .i64 c) ∧ Q.cell? ⟨g2, s * 3, none⟩ = some (.int .i64 x.vol) ∧ Q.cell? ⟨g2, s * 3 + 1, none⟩ = some (.int .i64 x.bir) ∧ Q.cell? ⟨g2, s * 3 + 2, none⟩ = some (.int .i64 x.pos))
                    (first | exact ⟨y0, y1, y2, y3⟩ | exact HF.out _ ((KeptIn.refl _ U).drew.trans hq2) | go_keep)
                    (first | (go_at_call 11; refine CR.out.mono ?_; rintro e U2 hD; obtain ⟨rfl, hq1, hq2⟩ := hD))
                  all_goals
                    have HU2 := Lib.hid (HS.out _ hq1 ((KeptIn.refl _ U).drew.trans hq2))
                    clear CR HF HS hq1 hq2 y0 y1 y2 y3
                    obtain ⟨bb, hbb⟩ : ∃ bb, decide (s + 1 = m) = bb := ⟨_, rfl⟩
                    rw [hbb] at s3
                    try simp only [hbb]
                    clear hbb
                    cases bb
                    · go_wp2_with fail
                      go_roundw
                      case rel => exact ⟨s + 1, _, rfl, by omega, by go_num, HU2⟩
                      case measure => simp [intOf]; omega
                    · go_wp2_with fail
                      go_roundw
                      case rel => exact ⟨s + 1, _, rfl, by omega, by go_num, HU2⟩
                      case measure => simp [intOf]; omega
                · obtain rfl : s = m := by omega
                  have hdn : l.drop s = [] := List.drop_eq_nil_iff.2 (by rw [HL.out.1]; exact Nat.le_refl _)
                  have hbo := HU.out.1
                  rw [hdn, HX.out.2.2.2] at hbo
                  have HZ2 : Hid (Fe13 W1 b (clr f ks (t + 1)) h g V.heap.size n cp ks (fun k => k = g) U) := Lib.hid ⟨hbo.weak _ fun k hk' => .inl hk', HU.out.2.1⟩
                  have s1 : ¬ (s : Int) < (s : Int) := by omega
                  clear hdn hbo HU hsl HL HX
                  go_wp2_with fail
                  go_roundw
                  case rel => exact ⟨t + 1, _, rfl, by omega, by go_num, HZ2⟩
                  case measure => simp [intOf]; omega
            · obtain rfl : t = n := by omega
              have t1 : ¬ (t : Int) < (t : Int) := by omega
              have hbo := HZ.out.1
              rw [HN.out.1] at hbo
              have HE := Lib.hid hbo
              clear HZ hbo htl HR
              have CC := Lib.hid HE.out.commit
              go_wp2_with (go_at_call 14; refine CC.out.mono ?_)
              rintro e Y2 hD
              obtain ⟨rfl, h2, -⟩ := hD
              have H2 := Lib.hid h2
              have CF := Lib.hid H2.out.free
              have CK := Lib.hid H2.out.chunks
              rw [free_none] at CF
              clear CC h2 HE
              go_wp2_with (go_at_call 20; refine CF.out.mono ?_; rintro e _ ⟨rfl, rfl⟩)
              refine CK.out.mono ?_
              rintro e Y3 hC
              obtain ⟨v, rfl, hr, hk⟩ := hC
              rw [keysO_none] at hr
              obtain ⟨a9, cap9, rfl⟩ := lenRow hr
              have HKE := Lib.hid (HK.out.on (H2.out.kept.trans (hk.mono fun k h => Nat.lt_of_lt_of_le h H2.out.kept.size)))
              clear hr hk CF CK H2
              go_wp2_with fail
              go_ret
              exact ⟨rfl, HKE.out⟩

end Go.Proofs.Ytononiedecpllaa
