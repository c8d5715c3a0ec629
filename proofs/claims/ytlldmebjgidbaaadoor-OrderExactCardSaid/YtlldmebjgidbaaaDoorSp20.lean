/- Order: the document's split. -/
import Derived.Test.YtlldmebjgidbaaaDoorRr20
import Derived.Deep.AppendLies
set_option linter.unusedVariables false
set_option linter.unusedSimpArgs false
namespace Go.Proofs.YtlldmebjgidbaaaDoor
open Go.RowKit

/-- A text put ahead of the first of a row. -/
def pre (p : List UInt8) (r : List (List UInt8)) : List (List UInt8) := p.foldr cons1 r
theorem pre_snoc (p : List UInt8) (c : UInt8) (r : List (List UInt8)) : pre (p ++ [c]) r = pre p (cons1 c r) := by simp [pre]
theorem pre_hd (p h : List UInt8) (r : List (List UInt8)) : pre p (h :: r) = (p ++ h) :: r := by
  induction p with
  | nil => rfl
  | cons c p ih => rw [show pre (c :: p) (h :: r) = cons1 c (pre p (h :: r)) from rfl, ih]; rfl
/-- How far split has come. -/
def SpI (l : List UInt8) (j f : Nat) (D : List (List UInt8)) : Prop :=
  (j ≤ l.length ∧ f ≤ j ∧ wds l = D ++ pre ((l.take j).drop f) (wds (l.drop j))) ∨ (j = l.length + 1 ∧ f ≤ j ∧ wds l = D)
theorem SpI.start (l : List UInt8) : SpI l 0 0 [] := .inl ⟨Nat.zero_le _, Nat.le_refl _, by simp [pre]⟩
theorem SpI.blank {l : List UInt8} {j f : Nat} {D : List (List UInt8)} (h : SpI l j f D) {c : UInt8} (hc : l[j]? = some c) (e : c = 32) : SpI l (j + 1) (j + 1) (D ++ [(l.take j).drop f]) := by
  have hj := (List.getElem?_eq_some_iff.1 hc).1
  rcases h with ⟨h1, h2, h3⟩ | ⟨h1, _⟩
  · refine .inl ⟨hj, Nat.le_refl _, ?_⟩
    have hw : wds (c :: l.drop (j + 1)) = [] :: wds (l.drop (j + 1)) := by
      conv => lhs; unfold wds
      rw [if_pos e]
    rw [h3, drop_at hc, hw, pre_hd, show (l.take (j + 1)).drop (j + 1) = [] from List.drop_eq_nil_of_le (by rw [List.length_take]; omega)]
    simp [pre]
  · exact absurd h1 (by omega)
theorem SpI.other {l : List UInt8} {j f : Nat} {D : List (List UInt8)} (h : SpI l j f D) {c : UInt8} (hc : l[j]? = some c) (e : c ≠ 32) : SpI l (j + 1) f D := by
  have hj := (List.getElem?_eq_some_iff.1 hc).1
  rcases h with ⟨h1, h2, h3⟩ | ⟨h1, _⟩
  · refine .inl ⟨hj, by omega, ?_⟩
    have hw : wds (c :: l.drop (j + 1)) = cons1 c (wds (l.drop (j + 1))) := by
      conv => lhs; unfold wds
      rw [if_neg e]
    rw [h3, drop_at hc, hw, ← pre_snoc]
    congr 2
    rw [List.take_add_one, hc, List.drop_append_of_le_length (by rw [List.length_take]; omega)]
    rfl
  · exact absurd h1 (by omega)
theorem SpI.last {l : List UInt8} {f : Nat} {D : List (List UInt8)} (h : SpI l l.length f D) : SpI l (l.length + 1) (l.length + 1) (D ++ [(l.take l.length).drop f]) := by
  rcases h with ⟨h1, h2, h3⟩ | ⟨h1, _⟩
  · refine .inr ⟨rfl, Nat.le_refl _, ?_⟩
    rw [h3, show l.drop l.length = [] from List.drop_eq_nil_of_le (Nat.le_refl _), show wds ([] : List UInt8) = [[]] from rfl, pre_hd, List.append_nil]
  · exact absurd h1 (by omega)
theorem ex_sl (l : List UInt8) (f j : Nat) : (⟨l.toArray⟩ : ByteArray).extract f j = ⟨((l.take j).drop f).toArray⟩ := by
  refine ex_of l _ f j ?_
  rw [List.drop_take]
theorem SoJ.form {B : Nat} {V W : World} {v : Value} {xs : List (List UInt8)} (h : SoJ B V xs v W) : ∃ a c, v = .slice a xs.length c := by
  rcases h.1.2 with ⟨rfl, h0⟩ | ⟨g', cap, cur, rfl, h1, h2, _⟩
  · exact ⟨none, 0, by rw [h0]⟩
  · exact ⟨_, _, rfl⟩
theorem SoJ.zero (w : World) : SoJ w.heap.size w [] (.slice (some ⟨w.heap.size, 0, none⟩) 0 0) (w.alloc (.cells #[] 9)) :=
  ⟨⟨rfl, .inr ⟨w.heap.size, 0, #[], rfl, Nat.le_refl _, heap_alloc_new _ _, Nat.le_refl _, Nat.zero_le _, rfl, rfl⟩⟩, (KeptIn.refl _ w).alloc (fun _ h => h) _, by simp⟩
theorem lt_num (j n : Nat) : decide ((j : Int) ≤ (n : Int)) = decide (j ≤ n) := by congr 1; apply propext; omega

set_option maxRecDepth 1000000 in
set_option maxHeartbeats 4000000 in
theorem rSplit (l : List UInt8) (hbig : l.length ≤ 100000) (w : World) :
    Calls Tryd.prog 33 #[.string ⟨l.toArray⟩] w fun e w' => ∃ v, e = .returned v ∧ SoJ w.heap.size w (wds l) v w' := by
  go_enter Tryd.func33, Tryd.ntmps33
  go_wp2_with fail
  go_loopw [3, 4, 5] (fun v f i wr => ∃ (j fr : Nat) (D : List (List UInt8)) (V : World) (v0 : Value), V = wr ∧ v0 = v ∧ f = .int .i64 (fr : Int) ∧ i = .int .i64 (j : Int) ∧ Hid (SpI l j fr D ∧ D.length ≤ j ∧ j ≤ l.length + 1 ∧ SoJ w.heap.size w D v0 V)) (fun _ _ i _ => l.length + 1 - (RowKit.intOf i).toNat)
  case atStart => exact ⟨0, 0, [], _, _, rfl, rfl, rfl, rfl, SpI.start l, Nat.le_refl _, Nat.zero_le _, SoJ.zero w⟩
  case round =>
    obtain ⟨j, f, D, V, v0, rfl, rfl, rfl, rfl, H⟩ := hrel
    obtain ⟨hI, hDl, hj, hS⟩ := H.out
    clear H
    obtain ⟨a, cap, rfl⟩ := hS.form
    obtain ⟨m, hm⟩ : ∃ m, D.length = m := ⟨_, rfl⟩
    rw [hm] at hDl ⊢
    rw [hm] at hS
    by_cases hp : j < l.length
    · obtain ⟨c, hc⟩ : ∃ c, l[j]? = some c := ⟨_, List.getElem?_eq_getElem hp⟩
      have hbx := str_byte l j c hc
      have d1 : decide ((j : Int) ≤ (l.length : Int)) = true := decide_eq_true (by omega)
      have d2 : ((j : Int) == (l.length : Int)) = false := beq_eq_false_iff_ne.2 (by omega)
      have d3 : (j : Int) < (l.length : Int) := by omega
      have d4 : (0 : Int) ≤ (j : Int) := by omega
      have d5 : decide (j ≤ l.length) = true := decide_eq_true (by omega)
      have hw1 := wrap_succ j (by omega)
      by_cases hb : c = 32
      · subst hb
        have hI2 := hI.blank hc rfl
        have hf : f ≤ j := by rcases hI with ⟨_, h, _⟩ | ⟨h, _⟩ <;> omega
        have hjl : j + 1 ≤ l.length + 1 := by omega
        obtain ⟨x, hx⟩ : ∃ x, (l.take j).drop f = x := ⟨_, rfl⟩
        have hex := ex_sl l f j
        rw [hx] at hex hI2
        have f1 : (0 : Int) ≤ (f : Int) := by omega
        have f2 : (f : Int) ≤ (j : Int) := by omega
        have f3 : (j : Int) ≤ (l.length : Int) := by omega
        have hrow : V.ownsRow w.heap.size 9 1 (.slice a m cap) m (txtC D) := by have := hS.1; rw [hm] at this; exact this
        obtain ⟨ii, hii, hz0, hz1, hz2⟩ := info_parts infoStr
        have hb1 : Hid (m + 1 ≤ maxLen) := Lib.hid (by unfold maxLen; omega)
        have hb2 : Hid ((m + 1) * 16 ≤ 140737488355328) := Lib.hid (by omega)
        have hBW := Lib.hid hS.2.2
        have HRW := Lib.hid hrow
        have hS' := Lib.hid hS
        have hm' := Lib.hid hm
        replace hI2 := Lib.hid hI2
        have hlen : Hid ((D ++ [x]).length ≤ j + 1) := Lib.hid (by simp; omega)
        replace hjl := Lib.hid hjl
        clear hI hm hS hDl hx hrow hj hp hc
        go_wp2_with (first
          | (at_builtin; refine wpList_append_own _ rfl _ _ 29 rfl w.heap.size 9 ii _ 1 16 Tryd.underlying29 hii hz0 hz1 hz2 rfl (by decide) _ _ _ rfl (HRW.out.alloc _) ⟨V.heap.size, 0, none⟩ 1 1 [.string ⟨x.toArray⟩] rfl rfl (World.news_of_block (cs := #[.string ⟨x.toArray⟩]) (t := 9) (fr := (0, 0)) (heap_alloc_new V _)) (by simp [Value.oneCell']) hb1.out hb2.out (by rw [World.size_alloc]; exact Nat.le_succ_of_le hBW.out) ?_))
        intro v' w8 hown hgrow _
        have hS2 : Hid (SoJ w.heap.size w (D ++ [x]) v' w8) := Lib.hid (hS'.out.next (fun _ h => h) (by rw [hm'.out]; exact hown) hgrow)
        clear hown hgrow hS' HRW hBW
        go_wp2_with fail
        go_roundw
        case rel => exact ⟨j + 1, j + 1, D ++ [x], _, _, rfl, rfl, by first | rfl | exact congrArg (Value.int .i64) hw1, by first | rfl | exact congrArg (Value.int .i64) hw1, hI2.out, hlen.out, hjl.out, hS2.out⟩
        case measure => first | exact ms_step (by have := hjl.out; omega) rfl | exact ms_step (by have := hjl.out; omega) hw1
      · have hI2 := Lib.hid (hI.other hc hb)
        have hc2 : ((c.toNat : Int) == 32) = false := beq_eq_false_iff_ne.2 fun e => hb (UInt8.toNat.inj (by rw [show (32 : UInt8).toNat = 32 from rfl]; omega))
        have hjl : Hid (j + 1 ≤ l.length + 1 ∧ m ≤ j + 1) := Lib.hid ⟨by omega, by omega⟩
        have hm' := Lib.hid hm
        have hS' := Lib.hid hS
        clear hI hb hm hS hj hDl hp hc
        go_wp2_with fail
        go_roundw
        case rel => exact ⟨j + 1, f, D, _, _, rfl, rfl, rfl, by first | rfl | exact congrArg (Value.int .i64) hw1, hI2.out, by rw [hm'.out]; exact hjl.out.2, hjl.out.1, hS'.out⟩
        case measure => first | exact ms_step (by have := hjl.out.1; omega) rfl | exact ms_step (by have := hjl.out.1; omega) hw1
    · by_cases hp2 : j = l.length
      · subst hp2
        have hI2 := hI.last
        have hf : f ≤ l.length := by rcases hI with ⟨_, h, _⟩ | ⟨h, _⟩ <;> omega
        have hjl : l.length + 1 ≤ l.length + 1 := Nat.le_refl _
        have d1 : decide ((l.length : Int) ≤ (l.length : Int)) = true := decide_eq_true (by omega)
        have d2 : ((l.length : Int) == (l.length : Int)) = true := beq_iff_eq.2 rfl
        have d4 : (0 : Int) ≤ (l.length : Int) := by omega
        have hw1 := wrap_succ l.length (by omega)
        obtain ⟨x, hx⟩ : ∃ x, (l.take l.length).drop f = x := ⟨_, rfl⟩
        have hex := ex_sl l f l.length
        rw [hx] at hex hI2
        have f1 : (0 : Int) ≤ (f : Int) := by omega
        have f2 : (f : Int) ≤ (l.length : Int) := by omega
        have f3 : (l.length : Int) ≤ (l.length : Int) := by omega
        have hrow : V.ownsRow w.heap.size 9 1 (.slice a m cap) m (txtC D) := by have := hS.1; rw [hm] at this; exact this
        obtain ⟨ii, hii, hz0, hz1, hz2⟩ := info_parts infoStr
        have hb1 : Hid (m + 1 ≤ maxLen) := Lib.hid (by unfold maxLen; omega)
        have hb2 : Hid ((m + 1) * 16 ≤ 140737488355328) := Lib.hid (by omega)
        have hBW := Lib.hid hS.2.2
        have HRW := Lib.hid hrow
        have hS' := Lib.hid hS
        have hm' := Lib.hid hm
        replace hI2 := Lib.hid hI2
        have hlen : Hid ((D ++ [x]).length ≤ l.length + 1) := Lib.hid (by simp; omega)
        replace hjl := Lib.hid hjl
        clear hI hm hS hDl hx hrow hj hp
        go_wp2_with (first
          | (at_builtin; refine wpList_append_own _ rfl _ _ 29 rfl w.heap.size 9 ii _ 1 16 Tryd.underlying29 hii hz0 hz1 hz2 rfl (by decide) _ _ _ rfl (HRW.out.alloc _) ⟨V.heap.size, 0, none⟩ 1 1 [.string ⟨x.toArray⟩] rfl rfl (World.news_of_block (cs := #[.string ⟨x.toArray⟩]) (t := 9) (fr := (0, 0)) (heap_alloc_new V _)) (by simp [Value.oneCell']) hb1.out hb2.out (by rw [World.size_alloc]; exact Nat.le_succ_of_le hBW.out) ?_))
        intro v' w8 hown hgrow _
        have hS2 : Hid (SoJ w.heap.size w (D ++ [x]) v' w8) := Lib.hid (hS'.out.next (fun _ h => h) (by rw [hm'.out]; exact hown) hgrow)
        clear hown hgrow hS' HRW hBW
        go_wp2_with fail
        go_roundw
        case rel => exact ⟨l.length + 1, l.length + 1, D ++ [x], _, _, rfl, rfl, by first | rfl | exact congrArg (Value.int .i64) hw1, by first | rfl | exact congrArg (Value.int .i64) hw1, hI2.out, hlen.out, hjl.out, hS2.out⟩
        case measure => first | exact ms_step (by have := hjl.out; omega) rfl | exact ms_step (by have := hjl.out; omega) hw1
      · obtain rfl : j = l.length + 1 := by omega
        have hfin : Hid (wds l = D) := Lib.hid (by rcases hI with ⟨h, _⟩ | ⟨_, _, h⟩; exact absurd h (by omega); exact h)
        have d1 : decide (((l.length + 1 : Nat) : Int) ≤ (l.length : Int)) = false := decide_eq_false (by omega)
        have d2 : decide ((l.length : Int) + 1 ≤ (l.length : Int)) = false := decide_eq_false (by omega)
        have hS' := Lib.hid hS
        clear hI hm hS hj hDl hp hp2
        go_wp2_with fail
        go_ret
        rw [hfin.out]
        exact ⟨_, rfl, hS'.out⟩
end Go.Proofs.YtlldmebjgidbaaaDoor
