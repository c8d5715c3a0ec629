/- Order: whether two orders are the same. -/
import Derived.Test.YtlldmebjgidbaaaDoorFo20
import Derived.Deep.QuietTactic
set_option linter.unusedVariables false
set_option linter.unusedSimpArgs false
namespace Go.Proofs.YtlldmebjgidbaaaDoor
open Go.RowKit

theorem samN (ns ms : List Int) (h : ns.length = ms.length) : ns = ms ↔ ∀ (j : Nat) a b, ns[j]? = some a → ms[j]? = some b → a = b := by
  constructor
  · rintro rfl j a b h1 h2
    rw [h1] at h2
    exact Option.some.inj h2
  · intro H
    apply List.ext_getElem h
    intro i h1 h2
    exact H i _ _ (List.getElem?_eq_getElem h1) (List.getElem?_eq_getElem h2)

theorem samT {α : Type} (ns ms : List α) (h : ns.length = ms.length) (H : ∀ i, i < ns.length → ∀ a b, ns[i]? = some a → ms[i]? = some b → a = b) : ns = ms := by
  apply List.ext_getElem h
  intro i h1 h2
  exact H i h1 _ _ (List.getElem?_eq_getElem h1) (List.getElem?_eq_getElem h2)

set_option maxRecDepth 1000000 in
set_option maxHeartbeats 4000000 in
theorem rSame (k1 k2 : Int) (a1 a2 b1 b2 : Option Addr) (ns ms : List Int) (ts us : List (List UInt8)) (w : World) (hn1 : RdN a1 ns w) (hn2 : RdN b1 ms w) (ht1 : RdT a2 ts w) (ht2 : RdT b2 us w) (hl1 : ns.length ≤ 1000) (hl2 : ts.length ≤ 1000) :
    Calls Tryd.prog 11 #[oS k1 (.slice a1 ns.length ns.length) (.slice a2 ts.length ts.length), oS k2 (.slice b1 ms.length ms.length) (.slice b2 us.length us.length)] w fun e w' => e = .returned (.bool (decide (k1 = k2 ∧ ns = ms ∧ ts = us))) ∧ KeptIn (· < w.heap.size) w w' := by
  unfold oS
  obtain ⟨res, hres⟩ : ∃ res, decide (k1 = k2 ∧ ns = ms ∧ ts = us) = res := ⟨_, rfl⟩
  rw [hres]
  replace hres := Lib.hid hres
  obtain ⟨W0, hW0⟩ : ∃ W, (w.alloc (.cells #[.int .i64 k1, .slice a1 ns.length ns.length, .slice a2 ts.length ts.length] 32)).alloc (.cells #[.int .i64 k2, .slice b1 ms.length ms.length, .slice b2 us.length us.length] 32) = W := ⟨_, rfl⟩
  have hs0 : W0.heap.size = w.heap.size + 1 + 1 := by rw [← hW0]; simp
  have hKW : KeptIn (· < w.heap.size) w W0 := by rw [← hW0]; exact kept2 w _ _
  have HKW : Hid (∀ V, KeptIn (· < w.heap.size + 1 + 1) W0 V → KeptIn (· < w.heap.size) w V) := Lib.hid fun V h => hKW.trans (h.mono fun k hk => by omega)
  have HW0 : Hid (W0.heap[w.heap.size]? = some (.cells #[.int .i64 k1, .slice a1 ns.length ns.length, .slice a2 ts.length ts.length] 32 (0, 0)) ∧ W0.heap[w.heap.size + 1]? = some (.cells #[.int .i64 k2, .slice b1 ms.length ms.length, .slice b2 us.length us.length] 32 (0, 0))) := Lib.hid (by
    rw [← hW0]
    refine ⟨?_, alloc2_new w _ _⟩
    rw [Lib.alloc_old _ _ _ (by simp)]
    exact heap_alloc_new w _)
  have HC : Hid (∀ V, KeptIn (· < w.heap.size + 1 + 1) W0 V → V.cell? ⟨w.heap.size, 1, none⟩ = some (.slice a1 ns.length ns.length) ∧ V.cell? ⟨w.heap.size, 2, none⟩ = some (.slice a2 ts.length ts.length) ∧ V.cell? ⟨w.heap.size + 1, 1, none⟩ = some (.slice b1 ms.length ms.length) ∧ V.cell? ⟨w.heap.size + 1, 2, none⟩ = some (.slice b2 us.length us.length)) := Lib.hid fun V h => by
    have h1 := (h.block w.heap.size (by omega)).trans HW0.out.1
    have h2 := (h.block (w.heap.size + 1) (by omega)).trans HW0.out.2
    refine ⟨?_, ?_, ?_, ?_⟩
    · unfold World.cell?; rw [h1]; rfl
    · unfold World.cell?; rw [h1]; rfl
    · unfold World.cell?; rw [h2]; rfl
    · unfold World.cell?; rw [h2]; rfl
  have H1 : Hid (∀ V, KeptIn (· < w.heap.size + 1 + 1) W0 V → RdN a1 ns V) := Lib.hid fun V h => hn1.old (HKW.out V h)
  have H2 : Hid (∀ V, KeptIn (· < w.heap.size + 1 + 1) W0 V → RdN b1 ms V) := Lib.hid fun V h => hn2.old (HKW.out V h)
  have H3 : Hid (∀ V, KeptIn (· < w.heap.size + 1 + 1) W0 V → RdT a2 ts V) := Lib.hid fun V h => ht1.old (HKW.out V h)
  have H4 : Hid (∀ V, KeptIn (· < w.heap.size + 1 + 1) W0 V → RdT b2 us V) := Lib.hid fun V h => ht2.old (HKW.out V h)
  replace hW0 := Lib.hid hW0
  clear hn1 hn2 ht1 ht2 hKW hs0 HW0
  by_cases hk : k1 = k2
  · have p1 : (k1 == k2) = true := beq_iff_eq.2 hk
    have p2 : (k1 != k2) = false := by simp [hk]
    replace hk := Lib.hid hk
    by_cases hl : ns.length = ms.length
    · have p3 : ((ns.length : Int) == (ms.length : Int)) = true := beq_iff_eq.2 (by omega)
      have p4 : ((ns.length : Int) != (ms.length : Int)) = false := by simp [hl]
      by_cases hm : ts.length = us.length
      · have p5 : ((ts.length : Int) == (us.length : Int)) = true := beq_iff_eq.2 (by omega)
        have p6 : ((ts.length : Int) != (us.length : Int)) = false := by simp [hm]
        replace hl := Lib.hid hl
        replace hm := Lib.hid hm
        go_enter Tryd.func11, Tryd.ntmps11
        go_wp2_with fail
        clear p1 p2 p3 p4 p5 p6
        have HR1 := H1
        have HR2 := H2
        go_loopw [5] (fun i wr => ∃ (j : Nat) (V : World), V = wr ∧ i = .int .i64 (j : Int) ∧ Hid (j ≤ ns.length ∧ KeptIn (· < w.heap.size + 1 + 1) W0 V ∧ ∀ i, i < j → ∀ a b, ns[i]? = some a → ms[i]? = some b → a = b)) (fun i _ => ns.length - (RowKit.intOf i).toNat)
        case atStart => exact ⟨0, _, rfl, rfl, Nat.zero_le _, (by have e := hW0.out; rw [← e]; exact KeptIn.refl _ _), fun i hi => absurd hi (by omega)⟩
        case round =>
          obtain ⟨j, V, rfl, rfl, H⟩ := hrel
          obtain ⟨hj, hK, hall⟩ := H.out
          clear H
          obtain ⟨cA1, cA2, cB1, cB2⟩ := HC.out V hK
          by_cases hp : j < ns.length
          · obtain ⟨x, hx⟩ : ∃ x, ns[j]? = some x := ⟨_, List.getElem?_eq_getElem hp⟩
            have hjm : j < ms.length := by have := hl.out; omega
            obtain ⟨y, hy⟩ : ∃ y, ms[j]? = some y := ⟨_, List.getElem?_eq_getElem hjm⟩
            obtain ⟨g1, hg1, hc1⟩ := HR1.out V hK j x hx
            obtain ⟨g2, hg2, hc2⟩ := HR2.out V hK j y hy
            rw [hg1] at cA1
            rw [hg2] at cB1
            have d1 : decide ((j : Int) < (ns.length : Int)) = true := decide_eq_true (by omega)
            have d2 : (j : Int) < (ns.length : Int) := by omega
            have d3 : (0 : Int) ≤ (j : Int) := by omega
            have d4 : (j : Int) < (ms.length : Int) := by omega
            have d5 : decide ((j : Int) < (ms.length : Int)) = true := decide_eq_true (by omega)
            have d6 : decide (j < ns.length) = true := decide_eq_true hp
            have hw1 := wrap_succ j (by omega)
            have hp2 := Lib.hid hp
            by_cases hxy : x = y
            · subst hxy
              have q1 : (x == x) = true := by simp
              have q2 : (x != x) = false := by simp
              have hall2 : Hid (∀ i, i < j + 1 → ∀ a b, ns[i]? = some a → ms[i]? = some b → a = b) := Lib.hid fun i hi a b h1 h2 => by
                by_cases e : i = j
                · subst e
                  rw [hx] at h1
                  rw [hy] at h2
                  rw [← Option.some.inj h1, ← Option.some.inj h2]
                · exact hall i (by omega) a b h1 h2
              replace hK := Lib.hid hK
              clear hall hx hy hg1 hg2 hj hp hjm
              go_wp2_with fail
              go_quiet (fail)
              go_wp2_with fail
              go_roundw
              case rel => exact ⟨j + 1, _, rfl, by first | rfl | exact congrArg (Value.int .i64) hw1, hp2.out, by first | exact hK.out.drewN _ | exact hK.out.drew | exact hK.out, hall2.out⟩
              case measure => first | exact ms_step hp2.out rfl | exact ms_step hp2.out hw1
            · have q1 : (x == y) = false := beq_eq_false_iff_ne.2 hxy
              have q2 : (x != y) = true := bne_iff_ne.2 hxy
              have hfin : Hid (res = false) := Lib.hid (by
                rw [← hres.out]
                refine decide_eq_false fun h => hxy ?_
                have e : ns = ms := h.2.1
                rw [e, hy] at hx
                exact (Option.some.inj hx).symm)
              replace hK := Lib.hid hK
              clear hall hx hy hg1 hg2 hj hp hjm
              go_wp2_with fail
              go_quiet (fail)
              go_wp2_with fail
              go_ret
              rw [hfin.out]
              exact ⟨rfl, HKW.out _ (by first | exact hK.out.drewN _ | exact hK.out.drew | exact hK.out)⟩
          · obtain rfl : j = ns.length := by omega
            have d1 : decide ((ns.length : Int) < (ns.length : Int)) = false := decide_eq_false (by omega)
            clear hj hp
            have heq : Hid (ns = ms) := Lib.hid (samT ns ms hl.out hall)
            have hK1 := Lib.hid hK
            clear hall hK HR1 HR2
            go_wp2_with fail
            clear cA1 cA2 cB1 cB2
            have HR1 := H3
            have HR2 := H4
            go_loopw [6] (fun i wr => ∃ (j : Nat) (V : World), V = wr ∧ i = .int .i64 (j : Int) ∧ Hid (j ≤ ts.length ∧ KeptIn (· < w.heap.size + 1 + 1) W0 V ∧ ∀ i, i < j → ∀ a b, ts[i]? = some a → us[i]? = some b → a = b)) (fun i _ => ts.length - (RowKit.intOf i).toNat)
            case atStart => exact ⟨0, _, rfl, rfl, Nat.zero_le _, hK1.out, fun i hi => absurd hi (by omega)⟩
            case round =>
              obtain ⟨j, V, rfl, rfl, H⟩ := hrel
              obtain ⟨hj, hK, hall⟩ := H.out
              clear H
              obtain ⟨cA1, cA2, cB1, cB2⟩ := HC.out V hK
              by_cases hp : j < ts.length
              · obtain ⟨x, hx⟩ : ∃ x, ts[j]? = some x := ⟨_, List.getElem?_eq_getElem hp⟩
                have hjm : j < us.length := by have := hm.out; omega
                obtain ⟨y, hy⟩ : ∃ y, us[j]? = some y := ⟨_, List.getElem?_eq_getElem hjm⟩
                obtain ⟨g1, hg1, hc1⟩ := HR1.out V hK j x hx
                obtain ⟨g2, hg2, hc2⟩ := HR2.out V hK j y hy
                rw [hg1] at cA2
                rw [hg2] at cB2
                have d1 : decide ((j : Int) < (ts.length : Int)) = true := decide_eq_true (by omega)
                have d2 : (j : Int) < (ts.length : Int) := by omega
                have d3 : (0 : Int) ≤ (j : Int) := by omega
                have d4 : (j : Int) < (us.length : Int) := by omega
                have d5 : decide ((j : Int) < (us.length : Int)) = true := decide_eq_true (by omega)
                have d6 : decide (j < ts.length) = true := decide_eq_true hp
                have hw1 := wrap_succ j (by omega)
                have hp2 := Lib.hid hp
                by_cases hxy : x = y
                · subst hxy
                  have q1 : (x == x) = true := by simp
                  have q2 : (x != x) = false := by simp
                  have hall2 : Hid (∀ i, i < j + 1 → ∀ a b, ts[i]? = some a → us[i]? = some b → a = b) := Lib.hid fun i hi a b h1 h2 => by
                    by_cases e : i = j
                    · subst e
                      rw [hx] at h1
                      rw [hy] at h2
                      rw [← Option.some.inj h1, ← Option.some.inj h2]
                    · exact hall i (by omega) a b h1 h2
                  replace hK := Lib.hid hK
                  clear hall hx hy hg1 hg2 hj hp hjm
                  go_wp2_with fail
                  go_quiet (fail)
                  go_wp2_with fail
                  go_roundw
                  case rel => exact ⟨j + 1, _, rfl, by first | rfl | exact congrArg (Value.int .i64) hw1, hp2.out, by first | exact hK.out.drewN _ | exact hK.out.drew | exact hK.out, hall2.out⟩
                  case measure => first | exact ms_step hp2.out rfl | exact ms_step hp2.out hw1
                · have q1 : (x == y) = false := beq_eq_false_iff_ne.2 hxy
                  have q2 : (x != y) = true := bne_iff_ne.2 hxy
                  have hfin : Hid (res = false) := Lib.hid (by
                    rw [← hres.out]
                    refine decide_eq_false fun h => hxy ?_
                    have e : ts = us := h.2.2
                    rw [e, hy] at hx
                    exact (Option.some.inj hx).symm)
                  replace hK := Lib.hid hK
                  clear hall hx hy hg1 hg2 hj hp hjm
                  go_wp2_with fail
                  go_quiet (fail)
                  go_wp2_with fail
                  go_ret
                  rw [hfin.out]
                  exact ⟨rfl, HKW.out _ (by first | exact hK.out.drewN _ | exact hK.out.drew | exact hK.out)⟩
              · obtain rfl : j = ts.length := by omega
                have d1 : decide ((ts.length : Int) < (ts.length : Int)) = false := decide_eq_false (by omega)
                clear hj hp
                have hfin : Hid (res = true) := Lib.hid (by
                  rw [← hres.out]
                  exact decide_eq_true ⟨hk.out, heq.out, samT ts us hm.out hall⟩)
                replace hK := Lib.hid hK
                clear hall
                go_wp2_with fail
                go_ret
                rw [hfin.out]
                exact ⟨rfl, HKW.out _ hK.out⟩
      · have p5 : ((ts.length : Int) == (us.length : Int)) = false := beq_eq_false_iff_ne.2 (by omega)
        have p6 : ((ts.length : Int) != (us.length : Int)) = true := bne_iff_ne.2 (by omega)
        have hfin : Hid (res = false) := Lib.hid (by rw [← hres.out]; exact decide_eq_false fun h => hm (by rw [h.2.2]))
        go_enter Tryd.func11, Tryd.ntmps11
        go_wp2_with fail
        go_ret
        rw [hfin.out]
        exact ⟨rfl, kept2 w _ _⟩
    · have p3 : ((ns.length : Int) == (ms.length : Int)) = false := beq_eq_false_iff_ne.2 (by omega)
      have p4 : ((ns.length : Int) != (ms.length : Int)) = true := bne_iff_ne.2 (by omega)
      have hfin : Hid (res = false) := Lib.hid (by rw [← hres.out]; exact decide_eq_false fun h => hl (by rw [h.2.1]))
      go_enter Tryd.func11, Tryd.ntmps11
      go_wp2_with fail
      go_ret
      rw [hfin.out]
      exact ⟨rfl, kept2 w _ _⟩
  · have p1 : (k1 == k2) = false := beq_eq_false_iff_ne.2 hk
    have p2 : (k1 != k2) = true := bne_iff_ne.2 hk
    have hfin : Hid (res = false) := Lib.hid (by rw [← hres.out]; exact decide_eq_false fun h => hk h.1)
    go_enter Tryd.func11, Tryd.ntmps11
    go_wp2_with fail
    go_ret
    rw [hfin.out]
    exact ⟨rfl, kept2 w _ _⟩

end Go.Proofs.YtlldmebjgidbaaaDoor
