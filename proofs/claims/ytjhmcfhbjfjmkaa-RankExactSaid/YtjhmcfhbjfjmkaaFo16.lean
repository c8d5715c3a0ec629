/- form: chunks that rise, as the document's items. -/
import Derived.Test.YtjhmcfhbjfjmkaaAw16
import Derived.Deep.RegionHeldLaw
import Derived.Deep.AppendLies
import Derived.Deep.Cut
import Derived.Deep.CutRange
set_option linter.unusedVariables false
namespace Go.Proofs.Ytjhmcfhbjfjmkaa
open Go.RowKit

/-- They rise by number, from 1 on. -/
def RisI (l : List It16) : Prop := (∀ x ∈ l, 1 ≤ x.ch) ∧ ∀ i (h : i + 1 < l.length), (l[i]'(by omega)).ch < l[i + 1].ch
def RisJ (l : List It16) (j : Nat) : Prop := ∀ i (h : i < l.length), i < j → 1 ≤ l[i].ch ∧ ∀ k (h2 : k + 1 = i), (l[k]'(by omega)).ch < l[i].ch
theorem RisJ.all {l : List It16} {j : Nat} (h : RisJ l j) (hj : l.length ≤ j) : RisI l := by
  refine ⟨fun x hx => ?_, fun i hi => (h (i + 1) hi (by omega)).2 i rfl⟩
  obtain ⟨i, hi, rfl⟩ := List.getElem_of_mem hx
  exact (h i hi (by omega)).1
theorem RisI.lt {l : List It16} (h : RisI l) : ∀ d i (hi : i + d + 1 < l.length), (l[i]'(by omega)).ch < (l[i + d + 1]'hi).ch := by
  intro d
  induction d with
  | zero => intro i hi; exact h.2 i hi
  | succ d ih =>
    intro i hi
    have h1 := ih i (by omega)
    have h2 := h.2 (i + d + 1) (by omega)
    have e : l[i + (d + 1) + 1] = l[i + d + 1 + 1] := rfl
    rw [e]
    omega
/-- No two have one number. -/
theorem RisI.inj {l : List It16} (h : RisI l) {i j : Nat} (hi : i < l.length) (hj : j < l.length) (e : l[i].ch = l[j].ch) : i = j := by
  rcases Nat.lt_trichotomy i j with hlt | heq | hgt
  · obtain ⟨d, rfl⟩ : ∃ d, j = i + d + 1 := ⟨j - i - 1, by omega⟩
    have := h.lt d i hj
    omega
  · exact heq
  · obtain ⟨d, rfl⟩ : ∃ d, i = j + d + 1 := ⟨i - j - 1, by omega⟩
    have := h.lt d j hi
    omega
/-- What form answers. -/
def FoS (w : World) (l : List It16) (e : Ending) (w' : World) : Prop :=
  (e = .returned (.tuple #[.slice none 0 0, .bool false]) ∨ ∃ a cap, e = .returned (.tuple #[.slice a l.length cap, .bool true]) ∧ RowI 38 w' w.heap.size (.slice a l.length cap) l ∧ RisI l) ∧ KeptIn (· < w.heap.size) w w'
theorem RwJ.start (T : TypeId) (w : World) : RwJ T w.heap.size w [] (.slice (some ⟨w.heap.size, 0, none⟩) 0 0) (w.alloc (.cells #[] T)) :=
  ⟨World.ownsRow_made w #[] 0 (Nat.le_refl _) (by decide) rfl, keptNew w _⟩

set_option maxHeartbeats 4000000 in
set_option maxRecDepth 100000 in
theorem formW16 (a : Option Addr) (cap : Nat) (l : List It16) (w : World) (h : IsI w a l) (hl : l.length ≤ 1000) :
    Calls Try.prog 7 #[.slice a l.length cap] w (FoS w l) := by
  obtain ⟨n, hn⟩ : ∃ n, l.length = n := ⟨_, rfl⟩
  have hnI : (n : Int) ≤ 1000 := by omega
  have H := Lib.hid h
  have HN := Lib.hid hn
  rw [hn]
  have hS := RwJ.start 38 w
  obtain ⟨W0, hW0⟩ : ∃ W0, w.alloc (.cells #[] 38) = W0 := ⟨_, rfl⟩
  obtain ⟨B, hB⟩ : ∃ B, w.heap.size = B := ⟨_, rfl⟩
  rw [hW0, hB] at hS
  have HW := Lib.hid hW0
  have HB := Lib.hid hB
  have HJ0 : Hid (RwJ 38 B w (l.take 0) (.slice (some ⟨B, 0, none⟩) 0 0) W0) := Lib.hid hS
  obtain ⟨ii, hii, hz0, hz1, hz2⟩ := info_parts infoIt16
  clear h hn hl hB hW0 hS
  go_enter Try.func7, Try.ntmps7
  go_wp2_with fail
  rw [HW.out]
  simp only [HB.out]
  go_loopw [4, 5] (fun v i wr => ∃ (j : Nat) (W : World) (v0 : Value), W = wr ∧ v0 = v ∧ j ≤ n ∧ i = .int .i64 (j : Int) ∧ Hid (RwJ 38 B w (l.take j) v0 W ∧ RisJ l j)) (fun _ i _ => n - (intOf i).toNat)
  case atStart => exact ⟨0, _, _, rfl, rfl, Nat.zero_le _, rfl, Lib.hid ⟨HJ0.out, fun i _ h => absurd h (Nat.not_lt_zero i)⟩⟩
  case round =>
    obtain ⟨j, W, v0, rfl, rfl, hj, rfl, HJ⟩ := hrel
    clear HJ0 HW
    by_cases hlt : j < n
    · have d0 : (0 : Int) ≤ (j : Int) := by omega
      have d1 : (j : Int) < (n : Int) := by omega
      have hjl : j < l.length := by rw [HN.out]; exact hlt
      have HI := Lib.hid (H.out.old (HJ.out.1.2.mono fun k hk => by rw [← HB.out]; exact hk))
      obtain ⟨b, off, rfl, hb, hc⟩ := HI.out.cells (by omega)
      have hcj := hc j hjl
      have HT := Lib.hid (take_snoc16 l j hjl)
      have HC := Lib.hid (And.intro hb hc)
      obtain ⟨x, hx⟩ : ∃ x, l[j] = x := ⟨_, rfl⟩
      rw [hx] at hcj
      rw [hx] at HT
      have HX := Lib.hid hx
      obtain ⟨c1, c2, c3, c4, c5⟩ := hcj
      have HFA : Hid (FoS w l (.returned (.tuple #[.slice none 0 0, .bool false])) W) := Lib.hid ⟨.inl rfl, by rw [HB.out]; exact HJ.out.1.2⟩
      clear hc hb hx
      by_cases hx1 : x.ch < 1
      · have r1 : decide (x.ch < 1) = true := decide_eq_true hx1
        clear HT HJ
        go_wp2_with fail
        go_quiet (fail)
        go_wp2_with fail
        go_ret2
        exact HFA.out.imp_left (fun h => h) |>.imp_right (KeptIn.drewN · _)
      · have r1 : decide (x.ch < 1) = false := decide_eq_false hx1
        by_cases hj0 : j = 0
        · have HR : Hid (RisJ l (j + 1)) := Lib.hid fun i hi hlt => by
            obtain rfl : i = j := by omega
            exact ⟨by rw [HX.out]; omega, fun k h2 => absurd h2 (by omega)⟩
          have r2 : decide ((0 : Int) < (j : Int)) = false := decide_eq_false (by omega)
          have r3 : decide (0 < j) = false := decide_eq_false (by omega)
          clear hj0
          go_wp2_with fail
          go_quiet (fail)
          clear r1 r2 r3
          have hJ3 := HJ.out.1.old HB.out ((KeptIn.refl (· < W.heap.size) W).drewN nq)
          obtain ⟨W2, hW2⟩ : ∃ W2, W.drewN nq = W2 := ⟨_, rfl⟩
          rw [hW2] at hJ3 ⊢
          have m1 : W2.cell? ⟨b, off + j * 5, none⟩ = some (.int .i64 x.ch) := by rw [← hW2]; exact c1
          have m2 : W2.cell? ⟨b, off + j * 5 + 1, none⟩ = some (.int .i64 x.he) := by rw [← hW2]; exact c2
          have m3 : W2.cell? ⟨b, off + j * 5 + 2, none⟩ = some (.int .i64 x.ti) := by rw [← hW2]; exact c3
          have m4 : W2.cell? ⟨b, off + j * 5 + 3, none⟩ = some (.bool x.pn) := by rw [← hW2]; exact c4
          have m5 : W2.cell? ⟨b, off + j * 5 + 4, none⟩ = some (.bool x.bu) := by rw [← hW2]; exact c5
          have hlen : (l.take j).length = j := by rw [List.length_take]; omega
          obtain ⟨qa, qc, rfl⟩ := hJ3.1.shape
          have hJ4 := hJ3.old HB.out ((KeptIn.refl (· < W2.heap.size) W2).drew)
          rw [hlen] at hJ4 ⊢
          have hrow8 : W2.drew.ownsRow B 38 5 (.slice qa j qc) j (cellsI (l.take j)) := by have := hJ4.1; unfold RowI at this; rw [hlen] at this; exact this
          have hsz8 : B ≤ W2.heap.size := by have := hJ3.2.size; rw [HB.out] at this; exact this
          have HJ3 := Lib.hid hJ4
          have hj9 : j ≤ 1000 := by omega
          have hbB : b < B := by
            obtain ⟨b2, off2, e2, hb2, _⟩ := H.out.cells (by omega)
            cases e2
            rw [← HB.out]
            exact hb2
          have HK9 : ∀ X, KeptIn (· < B) W2 X → X.cell? ⟨b, off + j * 5, none⟩ = some (.int .i64 x.ch) ∧ X.cell? ⟨b, off + j * 5 + 1, none⟩ = some (.int .i64 x.he) ∧ X.cell? ⟨b, off + j * 5 + 2, none⟩ = some (.int .i64 x.ti) ∧ X.cell? ⟨b, off + j * 5 + 3, none⟩ = some (.bool x.pn) ∧ X.cell? ⟨b, off + j * 5 + 4, none⟩ = some (.bool x.bu) := fun X hX => by
            have h := (At16.mk m1 m2 m3 m4 m5).kept (hX.block b hbB)
            exact ⟨h.ch, h.he, h.ti, h.pn, h.bu⟩
          have ha9 : KeptIn (· < B) W2 (W2.drew.alloc (.cells #[.int .i64 x.ch, .int .i64 x.he, .int .i64 x.ti, .bool x.pn, .bool x.bu] 38)) := ((KeptIn.refl _ W2).drew).alloc (fun k hk => Nat.lt_of_lt_of_le hk hsz8) _
          have hg9 : ∀ w1, (W2.drew.alloc (.cells #[.int .i64 x.ch, .int .i64 x.he, .int .i64 x.ti, .bool x.pn, .bool x.bu] 38)).grownBy w1 (Value.slice qa j qc).ownBlock → KeptIn (· < B) W2 w1 := fun w1 hg => ha9.grown (fun k hk => Nat.lt_of_lt_of_le hk hsz8) hg (fun g e => Nat.not_lt.2 (rowS_lt16 hrow8 g e).1)
          have HG9 := Lib.hid hg9
          have HA9 := Lib.hid ha9
          have HL9 := Lib.hid HK9
          clear hlen hJ3 hJ4 c1 c2 c3 c4 c5 hW2 HI HC HFA HJ H hg9 ha9 HK9 hbB
          go_wp2_with fail
          go_region_held_law (fun w' => w'.cell? ⟨b, off + j * 5, none⟩ = some (.int .i64 x.ch) ∧ w'.cell? ⟨b, off + j * 5 + 1, none⟩ = some (.int .i64 x.he) ∧ w'.cell? ⟨b, off + j * 5 + 2, none⟩ = some (.int .i64 x.ti) ∧ w'.cell? ⟨b, off + j * 5 + 3, none⟩ = some (.bool x.pn) ∧ w'.cell? ⟨b, off + j * 5 + 4, none⟩ = some (.bool x.bu))
            (first | exact HL9.out _ (KeptIn.refl _ W2).drew | exact HL9.out _ HA9.out | exact HL9.out _ (HG9.out _ (by assumption)))
            ((refine step_append_lies _ (by rfl) _ _ 24 (by rfl) B 38 ii _ 5 32 Try.underlying24 hii hz0 hz1 hz2 rfl (by omega) (.slice qa j qc) j _ (by rfl) (hrow8.alloc _) ⟨W2.heap.size, 0, none⟩ 1 1 [.int .i64 x.ch, .int .i64 x.he, .int .i64 x.ti, .bool x.pn, .bool x.bu] (by rfl) (by rfl) (World.news_of_block (cs := #[.int .i64 x.ch, .int .i64 x.he, .int .i64 x.ti, .bool x.pn, .bool x.bu]) (t := 38) (fr := (0, 0)) (heap_alloc_new W2.drew _)) (by simp [Value.oneCell']) (by omega) (by unfold maxLen; omega) (by omega) (by simp; omega) (W2.heap.size + 1) (by simp) ?_; intro gg cap' w1 hown1 hgrow hat hlt1))
          have hlen2 : (l.take j).length = j := by rw [List.length_take]; omega
          have HJ4 : Hid (RwJ 38 B w (l.take (j + 1)) (.slice (some ⟨gg, 0, none⟩) (j + 1) cap') w1 ∧ RisJ l (j + 1)) := Lib.hid ⟨by
            rw [HT.out]
            exact HJ3.out.next HB.out (keptNew W2.drew _) (by rw [hlen2]; exact hown1) hgrow, HR.out⟩
          clear hrow8 hsz8 HJ3 HG9 HA9 HL9 hown1 hgrow hat hlt1 hlen2 HT HX HR m1 m2 m3 m4 m5 hjl
          go_wp2_with fail
          go_roundw
          case rel => exact ⟨j + 1, _, _, rfl, rfl, by omega, by go_num, HJ4⟩
          case measure => simp only [intOf]; omega
        · obtain ⟨q, hq⟩ : ∃ q, q + 1 = j := ⟨j - 1, by omega⟩
          have hql : q < l.length := by omega
          have p1 := (HC.out.2 q hql).ch
          obtain ⟨z, hz⟩ : ∃ z, l[q].ch = z := ⟨_, rfl⟩
          rw [hz] at p1
          have r2 : decide ((0 : Int) < (j : Int)) = true := decide_eq_true (by omega)
          have r3 : decide (0 < j) = true := decide_eq_true (by omega)
          have i1 : IntKind.i64.wrap ((j : Int) - 1) = (q : Int) := by rw [IntKind.wrap_i64]; omega
          have i2 : wrap64 ((j : Int) - 1) = (q : Int) := by unfold wrap64; omega
          have q0 : (0 : Int) ≤ (q : Int) := by omega
          have q1 : (q : Int) < (n : Int) := by omega
          by_cases hle : x.ch ≤ z
          · have r4 : decide (x.ch ≤ z) = true := decide_eq_true hle
            clear HT HJ hz hq hql hj0
            go_wp2_with fail
            go_quiet (fail)
            go_wp2_with fail
            go_ret2
            exact ⟨.inl rfl, HFA.out.2.drewN _⟩
          · have r4 : decide (x.ch ≤ z) = false := decide_eq_false hle
            have HR : Hid (RisJ l (j + 1)) := Lib.hid fun i hi hlt => by
              by_cases e : i = j
              · subst e
                refine ⟨by rw [HX.out]; omega, fun k h2 => ?_⟩
                obtain rfl : k = q := by omega
                rw [HX.out, hz]
                omega
              · exact HJ.out.2 i hi (by omega)
            clear hz hq hql hj0 hle
            go_wp2_with fail
            go_quiet (fail)
            clear r1 r2 r3 r4 i1 i2 q0 q1
            have hJ3 := HJ.out.1.old HB.out ((KeptIn.refl (· < W.heap.size) W).drewN nq)
            obtain ⟨W2, hW2⟩ : ∃ W2, W.drewN nq = W2 := ⟨_, rfl⟩
            rw [hW2] at hJ3 ⊢
            have m1 : W2.cell? ⟨b, off + j * 5, none⟩ = some (.int .i64 x.ch) := by rw [← hW2]; exact c1
            have m2 : W2.cell? ⟨b, off + j * 5 + 1, none⟩ = some (.int .i64 x.he) := by rw [← hW2]; exact c2
            have m3 : W2.cell? ⟨b, off + j * 5 + 2, none⟩ = some (.int .i64 x.ti) := by rw [← hW2]; exact c3
            have m4 : W2.cell? ⟨b, off + j * 5 + 3, none⟩ = some (.bool x.pn) := by rw [← hW2]; exact c4
            have m5 : W2.cell? ⟨b, off + j * 5 + 4, none⟩ = some (.bool x.bu) := by rw [← hW2]; exact c5
            have hlen : (l.take j).length = j := by rw [List.length_take]; omega
            obtain ⟨qa, qc, rfl⟩ := hJ3.1.shape
            have hJ4 := hJ3.old HB.out ((KeptIn.refl (· < W2.heap.size) W2).drew)
            rw [hlen] at hJ4 ⊢
            have hrow8 : W2.drew.ownsRow B 38 5 (.slice qa j qc) j (cellsI (l.take j)) := by have := hJ4.1; unfold RowI at this; rw [hlen] at this; exact this
            have hsz8 : B ≤ W2.heap.size := by have := hJ3.2.size; rw [HB.out] at this; exact this
            have HJ3 := Lib.hid hJ4
            have hj9 : j ≤ 1000 := by omega
            have hbB : b < B := by
              obtain ⟨b2, off2, e2, hb2, _⟩ := H.out.cells (by omega)
              cases e2
              rw [← HB.out]
              exact hb2
            have HK9 : ∀ X, KeptIn (· < B) W2 X → X.cell? ⟨b, off + j * 5, none⟩ = some (.int .i64 x.ch) ∧ X.cell? ⟨b, off + j * 5 + 1, none⟩ = some (.int .i64 x.he) ∧ X.cell? ⟨b, off + j * 5 + 2, none⟩ = some (.int .i64 x.ti) ∧ X.cell? ⟨b, off + j * 5 + 3, none⟩ = some (.bool x.pn) ∧ X.cell? ⟨b, off + j * 5 + 4, none⟩ = some (.bool x.bu) := fun X hX => by
              have h := (At16.mk m1 m2 m3 m4 m5).kept (hX.block b hbB)
              exact ⟨h.ch, h.he, h.ti, h.pn, h.bu⟩
            have ha9 : KeptIn (· < B) W2 (W2.drew.alloc (.cells #[.int .i64 x.ch, .int .i64 x.he, .int .i64 x.ti, .bool x.pn, .bool x.bu] 38)) := ((KeptIn.refl _ W2).drew).alloc (fun k hk => Nat.lt_of_lt_of_le hk hsz8) _
            have hg9 : ∀ w1, (W2.drew.alloc (.cells #[.int .i64 x.ch, .int .i64 x.he, .int .i64 x.ti, .bool x.pn, .bool x.bu] 38)).grownBy w1 (Value.slice qa j qc).ownBlock → KeptIn (· < B) W2 w1 := fun w1 hg => ha9.grown (fun k hk => Nat.lt_of_lt_of_le hk hsz8) hg (fun g e => Nat.not_lt.2 (rowS_lt16 hrow8 g e).1)
            have HG9 := Lib.hid hg9
            have HA9 := Lib.hid ha9
            have HL9 := Lib.hid HK9
            clear hlen hJ3 hJ4 c1 c2 c3 c4 c5 hW2 HI HC HFA HJ H hg9 ha9 HK9 hbB
            go_wp2_with fail
            go_region_held_law (fun w' => w'.cell? ⟨b, off + j * 5, none⟩ = some (.int .i64 x.ch) ∧ w'.cell? ⟨b, off + j * 5 + 1, none⟩ = some (.int .i64 x.he) ∧ w'.cell? ⟨b, off + j * 5 + 2, none⟩ = some (.int .i64 x.ti) ∧ w'.cell? ⟨b, off + j * 5 + 3, none⟩ = some (.bool x.pn) ∧ w'.cell? ⟨b, off + j * 5 + 4, none⟩ = some (.bool x.bu))
              (first | exact HL9.out _ (KeptIn.refl _ W2).drew | exact HL9.out _ HA9.out | exact HL9.out _ (HG9.out _ (by assumption)))
              ((refine step_append_lies _ (by rfl) _ _ 24 (by rfl) B 38 ii _ 5 32 Try.underlying24 hii hz0 hz1 hz2 rfl (by omega) (.slice qa j qc) j _ (by rfl) (hrow8.alloc _) ⟨W2.heap.size, 0, none⟩ 1 1 [.int .i64 x.ch, .int .i64 x.he, .int .i64 x.ti, .bool x.pn, .bool x.bu] (by rfl) (by rfl) (World.news_of_block (cs := #[.int .i64 x.ch, .int .i64 x.he, .int .i64 x.ti, .bool x.pn, .bool x.bu]) (t := 38) (fr := (0, 0)) (heap_alloc_new W2.drew _)) (by simp [Value.oneCell']) (by omega) (by unfold maxLen; omega) (by omega) (by simp; omega) (W2.heap.size + 1) (by simp) ?_; intro gg cap' w1 hown1 hgrow hat hlt1))
            have hlen2 : (l.take j).length = j := by rw [List.length_take]; omega
            have HJ4 : Hid (RwJ 38 B w (l.take (j + 1)) (.slice (some ⟨gg, 0, none⟩) (j + 1) cap') w1 ∧ RisJ l (j + 1)) := Lib.hid ⟨by
              rw [HT.out]
              exact HJ3.out.next HB.out (keptNew W2.drew _) (by rw [hlen2]; exact hown1) hgrow, HR.out⟩
            clear hrow8 hsz8 HJ3 HG9 HA9 HL9 hown1 hgrow hat hlt1 hlen2 HT HX HR m1 m2 m3 m4 m5 hjl
            go_wp2_with fail
            go_roundw
            case rel => exact ⟨j + 1, _, _, rfl, rfl, by omega, by go_num, HJ4⟩
            case measure => simp only [intOf]; omega
    · have d1 : ¬ (j : Int) < (n : Int) := by omega
      obtain rfl : j = n := by omega
      have htk : l.take j = l := List.take_of_length_le (by rw [HN.out]; omega)
      have hE := HJ.out
      rw [htk] at hE
      have HE : Hid (FoS w l (.returned (.tuple #[v0, .bool true])) W) := Lib.hid (by
        obtain ⟨a1, c1, e1⟩ := hE.1.1.shape
        subst e1
        exact ⟨.inr ⟨a1, c1, rfl, by rw [HB.out]; exact hE.1.1, hE.2.all (by rw [HN.out]; exact Nat.le_refl _)⟩, by rw [HB.out]; exact hE.1.2⟩)
      clear HJ hE htk
      go_wp2_with fail
      go_ret2
      exact HE.out

end Go.Proofs.Ytjhmcfhbjfjmkaa
