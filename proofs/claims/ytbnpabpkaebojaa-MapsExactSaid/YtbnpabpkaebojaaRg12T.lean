import Derived.Test.YtbnpabpkaebojaaAw12T
import Derived.Test.YtbnpabpkaebojaaSd8T
/- Layer 12: the document's Good. -/
set_option linter.unusedVariables false
namespace Go.Proofs.Ytbnpabpkaebojaa
open Go.RowKit

theorem r12PlaceQ {x : Int} {r : Bool} (hr : decide (0 ≤ x ∧ x < 64) = r) (W : World) (n : Nat) : Calls Try.prog 18 #[.int .i64 x] (W.drewN n) fun e w' => e = .returned (.bool r) ∧ w' = W.drewN n := by
  have := r12Place x (W.drewN n)
  rw [hr] at this
  exact this
theorem r12ChunkQ {x : Int} {r : Bool} (hr : decide (1 ≤ x ∧ x ≤ 1023) = r) (W : World) (n : Nat) : Calls Try.prog 22 #[.int .i64 x] (W.drewN n) fun e w' => e = .returned (.bool r) ∧ w' = W.drewN n := by
  have := r12Chunk x (W.drewN n)
  rw [hr] at this
  exact this
theorem fst_at (es : Ents) (i : Nat) : (es.map Prod.fst).getD i 0 = (atE es i).1 := by
  unfold atE
  rw [List.getD_eq_getElem?_getD, List.getD_eq_getElem?_getD, List.getElem?_map]
  cases es[i]? <;> rfl
theorem snd_at (es : Ents) (i : Nat) : (es.map Prod.snd).getD i 0 = (atE es i).2 := by
  unfold atE
  rw [List.getD_eq_getElem?_getD, List.getD_eq_getElem?_getD, List.getElem?_map]
  cases es[i]? <;> rfl


set_option maxHeartbeats 8000000 in
set_option maxRecDepth 100000 in
theorem r12Good (a b : Option Addr) (ca cb : Nat) (es : Ents) (z : Int) (r : Bool) (w : World) (h1 : IntsL w a (es.map Prod.fst)) (h2 : IntsL w b (es.map Prod.snd)) (hl : es.length ≤ 1000) (hr : r = true ↔ goodE es z) :
    Calls Try.prog 27 #[.slice a es.length ca, .slice b es.length cb, .int .i64 z] w fun e w' => e = .returned (.bool r) ∧ KeptIn (· < w.heap.size) w w' := by
  obtain ⟨n, hn⟩ : ∃ n, es.length = n := ⟨_, rfl⟩
  have hnI : (n : Int) ≤ 1000 := by omega
  have H := Lib.hid (And.intro h1 h2)
  have HN := Lib.hid hn
  have HR := Lib.hid hr
  rw [hn]
  clear h1 h2 hn hl hr
  go_enter Try.func27, Try.ntmps27
  go_wp2_with fail
  go_loopw [7] (fun i wr => ∃ (j : Nat) (W : World), W = wr ∧ j ≤ n ∧ i = .int .i64 (j : Int) ∧ Hid (KeptIn (· < w.heap.size) w W ∧ (∀ i, i < j → okE z (atE es i) ∧ (0 < i → (atE es (i - 1)).1 < (atE es i).1)) ∧ IntsL W a (es.map Prod.fst) ∧ IntsL W b (es.map Prod.snd))) (fun i _ => n - (intOf i).toNat)
  case atStart => exact ⟨0, _, rfl, Nat.zero_le _, rfl, Lib.hid ⟨KeptIn.refl _ _, fun i hi => absurd hi (by omega), H.out⟩⟩
  case round =>
    clear H
    obtain ⟨j, W, rfl, hj, rfl, HJ⟩ := hrel
    by_cases hlt : j < n
    · have d0 : (0 : Int) ≤ (j : Int) := by omega
      have d1 : (j : Int) < (n : Int) := by omega
      have hjl : j < es.length := by rw [HN.out]; exact hlt
      have HJL := Lib.hid hjl
      obtain ⟨b1, o1, rfl, hb1, hc1⟩ := HJ.out.2.2.1.cells (by rw [List.length_map]; omega)
      obtain ⟨b2, o2, rfl, hb2, hc2⟩ := HJ.out.2.2.2.cells (by rw [List.length_map]; omega)
      have c1 := hc1 j (by rw [List.length_map]; exact hjl)
      have c2 := hc2 j (by rw [List.length_map]; exact hjl)
      rw [fst_at] at c1
      rw [snd_at] at c2
      have HCP := Lib.hid fun (t : Nat) (ht : t < es.length) => (hc1 t (by rw [List.length_map]; exact ht)).trans (congrArg (fun x => some (Value.int .i64 x)) (fst_at es t))
      obtain ⟨⟨x, y⟩, hxy⟩ : ∃ p, atE es j = p := ⟨_, rfl⟩
      rw [hxy] at c1 c2
      simp only at c1 c2
      have HXY := Lib.hid hxy
      clear hc1 hc2 hb1 hb2 hxy hjl
      by_cases hp : 0 ≤ x ∧ x < 64
      · have HPU := Lib.hid fun W n => r12PlaceQ (decide_eq_true hp) W n
        by_cases hz : z ≤ x
        · have z1 : z ≤ x := hz
          have HE : Hid (r = false) := Lib.hid (Bool.eq_false_iff.2 fun e => by
            have := (HR.out.1 e) j HJL.out
            rw [HXY.out] at this
            exact absurd this.1.2.2 (Int.not_lt.2 hz))
          have HK := Lib.hid fun q : Nat => HJ.out.1.drewN q
          clear HJ HCP
          go_wp2_with fail
          go_quiet (first | (go_at_call 18; exact Calls.quiet_of_same (HPU.out W _)) | (go_at_call 22; exact Calls.quiet_of_same (HNU.out W _)))
          go_wp2_with fail
          go_ret
          exact ⟨by rw [HE.out]; rfl, HK.out _⟩
        · have z1 : ¬ z ≤ x := hz
          have z2 : decide (z ≤ x) = false := decide_eq_false hz
          by_cases hv : 1 ≤ y ∧ y ≤ 1023
          · have HNU := Lib.hid fun W n => r12ChunkQ (decide_eq_true hv) W n
            have HOK : Hid (okE z (x, y)) := Lib.hid ⟨hp, hv, Int.not_le.1 hz⟩
            clear hp hv hz
            by_cases h0 : j = 0
            · have n1 : ¬ (0 : Int) < (j : Int) := by omega
              have n2 : decide ((0 : Int) < (j : Int)) = false := decide_eq_false n1
              have n3 : decide (0 < j) = false := decide_eq_false (by omega)
              have HJ2 : Hid (∀ q : Nat, KeptIn (· < w.heap.size) w (W.drewN q) ∧ (∀ i, i < j + 1 → okE z (atE es i) ∧ (0 < i → (atE es (i - 1)).1 < (atE es i).1)) ∧ IntsL (W.drewN q) (some ⟨b1, o1, none⟩) (es.map Prod.fst) ∧ IntsL (W.drewN q) (some ⟨b2, o2, none⟩) (es.map Prod.snd)) := Lib.hid fun q => ⟨HJ.out.1.drewN q, fun i hi => by
                obtain rfl : i = j := by omega
                rw [HXY.out]
                exact ⟨HOK.out, fun h => absurd h (by omega)⟩, HJ.out.2.2.1.drewN q, HJ.out.2.2.2.drewN q⟩
              clear HJ HCP h0
              go_wp2_with fail
              go_quiet (first | (go_at_call 18; exact Calls.quiet_of_same (HPU.out W _)) | (go_at_call 22; exact Calls.quiet_of_same (HNU.out W _)))
              go_wp2_with fail
              go_roundw
              case rel => exact ⟨j + 1, _, rfl, by omega, by go_num, Lib.hid (HJ2.out _)⟩
              case measure => simp only [intOf]; omega
            · obtain ⟨t, ht⟩ : ∃ t, j = t + 1 := ⟨j - 1, by omega⟩
              have hcp := HCP.out t (by rw [HN.out]; omega)
              obtain ⟨⟨x0, y0⟩, hx0⟩ : ∃ p, atE es t = p := ⟨_, rfl⟩
              rw [hx0] at hcp
              simp only at hcp
              have HX0 := Lib.hid (And.intro hx0 ht)
              have e3 : W.cell? ⟨b1, o1 + (j - 1), none⟩ = some (.int .i64 x0) := by rw [show j - 1 = t by omega]; exact hcp
              have e4 : W.cell? ⟨b1, o1 + ((j : Int) - 1).toNat, none⟩ = some (.int .i64 x0) := by rw [show ((j : Int) - 1).toNat = t by omega]; exact hcp
              have j1 : (0 : Int) < (j : Int) := by omega
              have j4 : 0 < j := by omega
              have j2 : (0 : Int) ≤ (j : Int) - 1 := by omega
              have j3 : (j : Int) - 1 < (n : Int) := by omega
              clear HCP hx0 ht hcp h0
              by_cases hle : x ≤ x0
              · have g1 : x ≤ x0 := hle
                have HE : Hid (r = false) := Lib.hid (Bool.eq_false_iff.2 fun e => by
                  have := ((HR.out.1 e) j HJL.out).2 (by omega)
                  rw [HXY.out, show j - 1 = t by have := HX0.out.2; omega, HX0.out.1] at this
                  simp only at this
                  omega)
                have HK := Lib.hid fun q : Nat => HJ.out.1.drewN q
                clear HJ
                go_wp2_with fail
                go_quiet (first | (go_at_call 18; exact Calls.quiet_of_same (HPU.out W _)) | (go_at_call 22; exact Calls.quiet_of_same (HNU.out W _)))
                go_wp2_with fail
                go_ret
                exact ⟨by rw [HE.out]; rfl, HK.out _⟩
              · have g1 : ¬ x ≤ x0 := hle
                have g2 : decide (x ≤ x0) = false := decide_eq_false hle
                have HJ2 : Hid (∀ q : Nat, KeptIn (· < w.heap.size) w (W.drewN q) ∧ (∀ i, i < j + 1 → okE z (atE es i) ∧ (0 < i → (atE es (i - 1)).1 < (atE es i).1)) ∧ IntsL (W.drewN q) (some ⟨b1, o1, none⟩) (es.map Prod.fst) ∧ IntsL (W.drewN q) (some ⟨b2, o2, none⟩) (es.map Prod.snd)) := Lib.hid fun q => ⟨HJ.out.1.drewN q, fun i hi => by
                  rcases Nat.lt_or_ge i j with h | h
                  · exact HJ.out.2.1 i h
                  · obtain rfl : i = j := by omega
                    rw [HXY.out]
                    refine ⟨HOK.out, fun _ => ?_⟩
                    rw [show i - 1 = t by have := HX0.out.2; omega, HX0.out.1]
                    exact Int.not_le.1 hle, HJ.out.2.2.1.drewN q, HJ.out.2.2.2.drewN q⟩
                clear HJ
                go_wp2_with fail
                go_quiet (first | (go_at_call 18; exact Calls.quiet_of_same (HPU.out W _)) | (go_at_call 22; exact Calls.quiet_of_same (HNU.out W _)))
                go_wp2_with fail
                go_roundw
                case rel => exact ⟨j + 1, _, rfl, by omega, by go_num, Lib.hid (HJ2.out _)⟩
                case measure => simp only [intOf]; omega
          · have HNU := Lib.hid fun W n => r12ChunkQ (decide_eq_false hv) W n
            have HE : Hid (r = false) := Lib.hid (Bool.eq_false_iff.2 fun e => by
              have := (HR.out.1 e) j HJL.out
              rw [HXY.out] at this
              exact hv this.1.2.1)
            have HK := Lib.hid fun q : Nat => HJ.out.1.drewN q
            clear HJ HCP
            go_wp2_with fail
            go_quiet (first | (go_at_call 18; exact Calls.quiet_of_same (HPU.out W _)) | (go_at_call 22; exact Calls.quiet_of_same (HNU.out W _)))
            go_wp2_with fail
            go_ret
            exact ⟨by rw [HE.out]; rfl, HK.out _⟩
      · have HPU := Lib.hid fun W n => r12PlaceQ (decide_eq_false hp) W n
        have HE : Hid (r = false) := Lib.hid (Bool.eq_false_iff.2 fun e => by
          have := (HR.out.1 e) j HJL.out
          rw [HXY.out] at this
          exact hp this.1.1)
        have HK := Lib.hid fun q : Nat => HJ.out.1.drewN q
        clear HJ HCP
        go_wp2_with fail
        go_quiet (first | (go_at_call 18; exact Calls.quiet_of_same (HPU.out W _)) | (go_at_call 22; exact Calls.quiet_of_same (HNU.out W _)))
        go_wp2_with fail
        go_ret
        exact ⟨by rw [HE.out]; rfl, HK.out _⟩
    · have d1 : ¬ (j : Int) < (n : Int) := by omega
      have HE : Hid (r = true) := Lib.hid (HR.out.2 fun i hi => HJ.out.2.1 i (by rw [HN.out] at hi; omega))
      have HK := Lib.hid HJ.out.1
      clear HJ
      go_wp2_with fail
      go_ret
      exact ⟨by rw [HE.out]; rfl, HK.out⟩

end Go.Proofs.Ytbnpabpkaebojaa
