/- The document's answers for orders: Number. -/
import Derived.Test.YtlldmebjgidbaaaDoorRp20
set_option linter.unusedVariables false
set_option linter.unusedSimpArgs false
namespace Go.Proofs.YtlldmebjgidbaaaDoor
open Go.RowKit

theorem valD_take (d : List UInt8) (j : Nat) (c : UInt8) (h : d[j]? = some c) : valD (d.take (j + 1)) = valD (d.take j) * 10 + (c.toNat - 48) := by
  rw [List.take_add_one, h]
  exact valD_snoc _ c
theorem fold_lt : ∀ (l : List UInt8) (u k : Nat), l.all isDg = true → u < 10 ^ k → l.foldl (fun u c => u * 10 + (c.toNat - 48)) u < 10 ^ (k + l.length)
  | [], u, k, _, h => by simpa using h
  | c :: l, u, k, ha, h => by
    rw [List.all_cons, Bool.and_eq_true] at ha
    have h2 := of_decide_eq_true ha.1
    rw [List.foldl_cons, List.length_cons, show k + (l.length + 1) = (k + 1) + l.length by omega]
    exact fold_lt l _ (k + 1) ha.2 (by rw [Nat.pow_succ]; omega)
theorem valD_18 (d : List UInt8) (j : Nat) (h : (d.take j).all isDg = true) (hj : j ≤ 18) : valD (d.take j) < 1000000000000000000 := by
  have h1 := fold_lt (d.take j) 0 0 h (by decide)
  rw [Nat.zero_add] at h1
  have h2 : 10 ^ (d.take j).length ≤ 10 ^ 18 := Nat.pow_le_pow_right (by decide) (by rw [List.length_take]; omega)
  have : (10 : Nat) ^ 18 = 1000000000000000000 := by decide
  exact Nat.lt_of_lt_of_le h1 (by rw [← this]; exact h2)
theorem num_step (x e y : Nat) (hx : x < 1000000000000000000) (he : 48 ≤ e ∧ e ≤ 57) (h : x * 10 + (e - 48) = y) : IntKind.u64.wrap (IntKind.u64.wrap ((x : Int) * 10) + ((e : Int) - 48)) = (y : Int) := by
  simp only [IntKind.wrap_u64]; omega
theorem num_sub (e : Nat) (he : 48 ≤ e ∧ e ≤ 57) : ((e : Int) - 48) % 256 = (e : Int) - 48 := by omega
theorem wrap_neg (x : Nat) : wrap64 (IntKind.u64.wrap (-(x : Int))) = wrap64 (-(x : Int)) := by rw [IntKind.wrap_u64]; unfold wrap64; omega

theorem pl_len (l : List UInt8) : (pl l).length ≤ l.length := by
  obtain ⟨n, hn⟩ : ∃ n, l.length = n := ⟨_, rfl⟩
  induction n using Nat.strongRecOn generalizing l with
  | _ n ih =>
    cases l with
    | nil => rw [pl_nil]; exact Nat.le_refl _
    | cons a r =>
      rw [pl_cons]
      rw [List.length_cons] at hn
      split
      · have := ih (r.drop 2).length (by rw [List.length_drop]; omega) (r.drop 2) rfl
        rw [List.length_drop] at this
        rw [List.length_cons, List.length_cons]
        omega
      · have := ih r.length (by omega) r rfl
        rw [List.length_cons, List.length_cons]
        omega

set_option maxRecDepth 1000000 in
set_option maxHeartbeats 4000000 in
theorem rNumber0 (l : List UInt8) (hbig : l.length ≤ 100000) (w : World) :
    Calls Tryd.prog 35 #[.string ⟨l.toArray⟩] w fun e w' => e = .returned (.tuple #[.int .i64 (nvI (numR (pl l))), .bool (numR (pl l)).isSome]) ∧ KeptIn (· < w.heap.size) w w' := by
  have C := rPlain l hbig w
  have hpl : (pl l).length ≤ l.length := pl_len l
  obtain ⟨t, ht⟩ : ∃ t, pl l = t := ⟨_, rfl⟩
  rw [ht] at C hpl ⊢
  have htl : t.length ≤ 100000 := by omega
  replace C := Lib.hid C
  clear ht hpl hbig
  obtain ⟨rr, hr⟩ : ∃ rr, numR t = rr := ⟨_, rfl⟩
  rw [hr]
  replace hr := Lib.hid hr
  go_enter Tryd.func35, Tryd.ntmps35
  go_wp2_with fail
  refine C.out.mono ?_
  rintro e W ⟨rfl, HK⟩
  replace HK := Lib.hid HK
  clear C
  cases t with
  | nil =>
    have hres : Hid (rr = none) := Lib.hid (by rw [← hr.out]; unfold numR; rw [if_pos (Or.inl (show absP [] = [] from rfl))])
    go_wp2_with fail
    go_ret2
    rw [hres.out]
    exact ⟨rfl, HK.out⟩
  | cons c m =>
    have hbc : ∀ h : 0 < (⟨(c :: m).toArray⟩ : ByteArray).size, (⟨(c :: m).toArray⟩ : ByteArray)[0]'h = c := fun h => rfl
    have hex : (⟨(c :: m).toArray⟩ : ByteArray).extract 1 (c :: m).length = ⟨m.toArray⟩ := ex_of _ m _ _ (by simp)
    have hml : m.length ≤ 100000 := by simp at htl; omega
    have habs1 : c.toNat = 45 → absP (c :: m) = m := fun hc => by simp [absP, hc]
    have habs2 : c.toNat ≠ 45 → absP (c :: m) = c :: m := fun hc => by simp only [absP]; rw [if_neg hc]
    have hneg1 : c.toNat = 45 → negP (c :: m) = true := fun hc => by simp [negP, hc]
    have hneg2 : c.toNat ≠ 45 → negP (c :: m) = false := fun hc => by simp [negP, hc]
    have hpos : 0 < (c :: m).length := by simp
    obtain ⟨t2, ht2⟩ : ∃ t2, c :: m = t2 := ⟨_, rfl⟩
    rw [ht2] at hbc hex habs1 habs2 hneg1 hneg2 hpos htl hr ⊢
    have p1 : decide ((t2.length : Int) > 0) = true := decide_eq_true (by omega)
    have p2 : decide (0 < (t2.length : Int)) = true := p1
    have p3 : decide (0 < t2.length) = true := decide_eq_true hpos
    have p4 : (0 : Int) < (t2.length : Int) := by omega
    clear ht2
    by_cases hc : c.toNat = 45
    · have b1 : ((c.toNat : Int) == 45) = true := beq_iff_eq.2 (by omega)
      have habs : Hid (absP t2 = m) := Lib.hid (habs1 hc)
      have hval : Hid (∀ x : Nat, x = valD m → wrap64 (IntKind.u64.wrap (-(x : Int))) = valI t2) := Lib.hid fun x hx => by
        rw [wrap_neg]
        unfold valI
        rw [habs.out, if_pos (hneg1 hc), ← hx]
      clear habs1 habs2 hneg1 hneg2
      by_cases hd0 : m = []
      · subst hd0
        have hres : Hid (rr = none) := Lib.hid (by rw [← hr.out]; unfold numR; rw [habs.out, if_pos (Or.inl rfl)])
        go_wp2_with fail
        go_ret2
        rw [hres.out]
        exact ⟨rfl, HK.out⟩
      · have hdl : 1 ≤ m.length := by cases hdd : m with | nil => exact absurd hdd hd0 | cons => simp
        have z1 : decide ((m.length : Int) = 0) = false := decide_eq_false (by omega)
        have z2 : ((m.length : Int) == 0) = false := beq_eq_false_iff_ne.2 (by omega)
        have z3 : (m.length == 0) = false := beq_eq_false_iff_ne.2 (by omega)
        by_cases h19 : 19 < m.length
        · have z4 : decide ((19 : Int) < (m.length : Int)) = true := decide_eq_true (by omega)
          have z5 : decide ((m.length : Int) > 19) = true := z4
          have z6 : decide (19 < m.length) = true := decide_eq_true h19
          have hres : Hid (rr = none) := Lib.hid (by rw [← hr.out]; unfold numR; rw [habs.out, if_pos (Or.inr h19)])
          go_wp2_with fail
          go_ret2
          rw [hres.out]
          exact ⟨rfl, HK.out⟩
        · have z4 : decide ((19 : Int) < (m.length : Int)) = false := decide_eq_false (by omega)
          have z5 : decide ((m.length : Int) > 19) = false := z4
          have z6 : decide (19 < m.length) = false := decide_eq_false h19
          have hle : m.length ≤ 19 := by omega
          replace hd0 := Lib.hid hd0
          replace h19 := Lib.hid h19
          go_wp2_with fail
          go_loopw [6, 7] (fun v i wr => ∃ (j x : Nat) (V : World), V = wr ∧ v = .int .u64 (x : Int) ∧ i = .int .i64 (j : Int) ∧ Hid (j ≤ m.length ∧ KeptIn (· < w.heap.size) w V ∧ (m.take j).all isDg = true ∧ x = valD (m.take j))) (fun _ i _ => m.length - (RowKit.intOf i).toNat)
          case atStart => exact ⟨0, 0, _, rfl, rfl, rfl, Nat.zero_le _, HK.out, rfl, rfl⟩
          case round =>
            obtain ⟨j, x, V, rfl, rfl, rfl, H⟩ := hrel
            obtain ⟨hj, hK, hall, hx⟩ := H.out
            clear H HK
            by_cases hp : j < m.length
            · obtain ⟨e, he⟩ : ∃ e, m[j]? = some e := ⟨_, List.getElem?_eq_getElem hp⟩
              have hbx := str_byte m j e he
              have d1 : decide ((j : Int) < (m.length : Int)) = true := decide_eq_true (by omega)
              have d2 : (j : Int) < (m.length : Int) := by omega
              have d3 : (0 : Int) ≤ (j : Int) := by omega
              have d4 : decide (j < m.length) = true := decide_eq_true hp
              have hw1 := wrap_succ j (by omega)
              have hxb : x < 1000000000000000000 := by rw [hx]; exact valD_18 m j hall (by omega)
              by_cases hg : isDg e = true
              · have hgn := of_decide_eq_true hg
                have f1 : decide ((e.toNat : Int) < 48) = false := decide_eq_false (by omega)
                have f2 : decide ((57 : Int) < (e.toNat : Int)) = false := decide_eq_false (by omega)
                have f3 : decide ((e.toNat : Int) > 57) = false := f2
                have f4 : decide (e.toNat < 48) = false := decide_eq_false (by omega)
                have f5 : decide (57 < e.toNat) = false := decide_eq_false (by omega)
                obtain ⟨y, hy⟩ : ∃ y, x * 10 + (e.toNat - 48) = y := ⟨_, rfl⟩
                have n1 := num_step x e.toNat y hxb ⟨hgn.1, hgn.2⟩ hy
                have n2 := num_sub e.toNat ⟨hgn.1, hgn.2⟩
                have hnx : Hid ((m.take (j + 1)).all isDg = true ∧ y = valD (m.take (j + 1))) := Lib.hid ⟨by rw [List.take_add_one, he, List.all_append, hall]; simp [hg], by rw [valD_take m j e he, ← hx]; exact hy.symm⟩
                replace hK := Lib.hid hK
                replace hp := Lib.hid hp
                clear hall hx hj he hg hgn hy hxb
                go_wp2_with fail
                go_roundw
                case rel => exact ⟨j + 1, y, _, rfl, by first | rfl | exact congrArg (Value.int .u64) n1, by first | rfl | exact congrArg (Value.int .i64) hw1, hp.out, hK.out, hnx.out.1, hnx.out.2⟩
                case measure => first | exact ms_step hp.out rfl | exact ms_step hp.out hw1
              · have hres : Hid (rr = none) := Lib.hid (by
                  rw [← hr.out]
                  unfold numR
                  rw [habs.out, if_neg (by rintro (q | q); exact hd0.out q; exact h19.out q), if_pos]
                  cases hq : m.all isDg with
                  | false => rfl
                  | true => exact absurd (List.all_eq_true.1 hq e (List.mem_of_getElem? he)) hg)
                replace hK := Lib.hid hK
                by_cases hlo : e.toNat < 48
                · have f1 : decide ((e.toNat : Int) < 48) = true := decide_eq_true (by omega)
                  have f4 : decide (e.toNat < 48) = true := decide_eq_true hlo
                  clear hall hx hj he hg hxb hp
                  go_wp2_with fail
                  go_ret2
                  rw [hres.out]
                  exact ⟨rfl, hK.out⟩
                · have hhi : 57 < e.toNat := by
                    rcases Nat.lt_or_ge 57 e.toNat with q | q
                    · exact q
                    · exact absurd (decide_eq_true ⟨by omega, q⟩) hg
                  have f1 : decide ((e.toNat : Int) < 48) = false := decide_eq_false (by omega)
                  have f4 : decide (e.toNat < 48) = false := decide_eq_false hlo
                  have f2 : decide ((57 : Int) < (e.toNat : Int)) = true := decide_eq_true (by omega)
                  have f3 : decide ((e.toNat : Int) > 57) = true := f2
                  have f5 : decide (57 < e.toNat) = true := decide_eq_true hhi
                  clear hall hx hj he hg hxb hp hhi hlo
                  go_wp2_with fail
                  go_ret2
                  rw [hres.out]
                  exact ⟨rfl, hK.out⟩
            · obtain rfl : j = m.length := by omega
              have d1 : decide ((m.length : Int) < (m.length : Int)) = false := decide_eq_false (by omega)
              rw [List.take_length] at hall hx
              have hres : Hid (rr = if Lib.itoa (valI t2) = t2 then some (valI t2) else none) := Lib.hid (by
                rw [← hr.out]
                unfold numR
                rw [habs.out, if_neg (by rintro (q | q); exact hd0.out q; exact h19.out q), if_neg (by rw [hall]; simp)])
              have hvi := hval.out x hx
              obtain ⟨vi, hv⟩ : ∃ vi, valI t2 = vi := ⟨_, rfl⟩
              have C := rDigits (valI t2) (valI_in t2).1 (valI_in t2).2
              rw [hv] at C hres hvi
              replace C := Lib.hid C
              replace hK := Lib.hid hK
              clear hall hx hj hp
              by_cases heq : Lib.itoa vi = t2
              · have hres2 : Hid (rr = some vi) := Lib.hid (by rw [hres.out, if_pos heq])
                have q1 : (Lib.itoa vi == t2) = true := beq_iff_eq.2 heq
                clear hres
                replace heq := Lib.hid heq
                obtain ⟨it, hit⟩ : ∃ it, Lib.itoa vi = it := ⟨_, rfl⟩
                rw [hit] at C q1
                go_wp2_with fail
                try rw [hvi]
                with_reducible refine (C.out V).mono ?_
                rintro e W2 ⟨rfl, hK2⟩
                have HK2 := Lib.hid (hK.out.trans (hK2.mono fun k hk => Nat.lt_of_lt_of_le hk hK.out.size))
                go_wp2_with fail
                go_ret2
                rw [hres2.out]
                exact ⟨rfl, HK2.out⟩
              · have hres2 : Hid (rr = none) := Lib.hid (by rw [hres.out, if_neg heq])
                have q1 : (Lib.itoa vi == t2) = false := beq_eq_false_iff_ne.2 heq
                clear hres
                replace heq := Lib.hid heq
                obtain ⟨it, hit⟩ : ∃ it, Lib.itoa vi = it := ⟨_, rfl⟩
                rw [hit] at C q1
                go_wp2_with fail
                try rw [hvi]
                with_reducible refine (C.out V).mono ?_
                rintro e W2 ⟨rfl, hK2⟩
                have HK2 := Lib.hid (hK.out.trans (hK2.mono fun k hk => Nat.lt_of_lt_of_le hk hK.out.size))
                go_wp2_with fail
                go_ret2
                rw [hres2.out]
                exact ⟨rfl, HK2.out⟩
    · have b1 : ((c.toNat : Int) == 45) = false := beq_eq_false_iff_ne.2 (by omega)
      have habs : Hid (absP t2 = t2) := Lib.hid (habs2 hc)
      have hval : Hid (∀ x : Nat, x = valD t2 → wrap64 (x : Int) = valI t2) := Lib.hid fun x hx => by
        unfold valI
        rw [habs.out, if_neg (by rw [hneg2 hc]; simp), ← hx]
      clear habs1 habs2 hneg1 hneg2 hex
      by_cases hd0 : t2 = []
      · subst hd0
        have hres : Hid (rr = none) := Lib.hid (by rw [← hr.out]; unfold numR; rw [habs.out, if_pos (Or.inl rfl)])
        go_wp2_with fail
        go_ret2
        rw [hres.out]
        exact ⟨rfl, HK.out⟩
      · have hdl : 1 ≤ t2.length := by cases hdd : t2 with | nil => exact absurd hdd hd0 | cons => simp
        have z1 : decide ((t2.length : Int) = 0) = false := decide_eq_false (by omega)
        have z2 : ((t2.length : Int) == 0) = false := beq_eq_false_iff_ne.2 (by omega)
        have z3 : (t2.length == 0) = false := beq_eq_false_iff_ne.2 (by omega)
        by_cases h19 : 19 < t2.length
        · have z4 : decide ((19 : Int) < (t2.length : Int)) = true := decide_eq_true (by omega)
          have z5 : decide ((t2.length : Int) > 19) = true := z4
          have z6 : decide (19 < t2.length) = true := decide_eq_true h19
          have hres : Hid (rr = none) := Lib.hid (by rw [← hr.out]; unfold numR; rw [habs.out, if_pos (Or.inr h19)])
          go_wp2_with fail
          go_ret2
          rw [hres.out]
          exact ⟨rfl, HK.out⟩
        · have z4 : decide ((19 : Int) < (t2.length : Int)) = false := decide_eq_false (by omega)
          have z5 : decide ((t2.length : Int) > 19) = false := z4
          have z6 : decide (19 < t2.length) = false := decide_eq_false h19
          have hle : t2.length ≤ 19 := by omega
          replace hd0 := Lib.hid hd0
          replace h19 := Lib.hid h19
          go_wp2_with fail
          go_loopw [6, 7] (fun v i wr => ∃ (j x : Nat) (V : World), V = wr ∧ v = .int .u64 (x : Int) ∧ i = .int .i64 (j : Int) ∧ Hid (j ≤ t2.length ∧ KeptIn (· < w.heap.size) w V ∧ (t2.take j).all isDg = true ∧ x = valD (t2.take j))) (fun _ i _ => t2.length - (RowKit.intOf i).toNat)
          case atStart => exact ⟨0, 0, _, rfl, rfl, rfl, Nat.zero_le _, HK.out, rfl, rfl⟩
          case round =>
            obtain ⟨j, x, V, rfl, rfl, rfl, H⟩ := hrel
            obtain ⟨hj, hK, hall, hx⟩ := H.out
            clear H HK
            by_cases hp : j < t2.length
            · obtain ⟨e, he⟩ : ∃ e, t2[j]? = some e := ⟨_, List.getElem?_eq_getElem hp⟩
              have hbx := str_byte t2 j e he
              have d1 : decide ((j : Int) < (t2.length : Int)) = true := decide_eq_true (by omega)
              have d2 : (j : Int) < (t2.length : Int) := by omega
              have d3 : (0 : Int) ≤ (j : Int) := by omega
              have d4 : decide (j < t2.length) = true := decide_eq_true hp
              have hw1 := wrap_succ j (by omega)
              have hxb : x < 1000000000000000000 := by rw [hx]; exact valD_18 t2 j hall (by omega)
              by_cases hg : isDg e = true
              · have hgn := of_decide_eq_true hg
                have f1 : decide ((e.toNat : Int) < 48) = false := decide_eq_false (by omega)
                have f2 : decide ((57 : Int) < (e.toNat : Int)) = false := decide_eq_false (by omega)
                have f3 : decide ((e.toNat : Int) > 57) = false := f2
                have f4 : decide (e.toNat < 48) = false := decide_eq_false (by omega)
                have f5 : decide (57 < e.toNat) = false := decide_eq_false (by omega)
                obtain ⟨y, hy⟩ : ∃ y, x * 10 + (e.toNat - 48) = y := ⟨_, rfl⟩
                have n1 := num_step x e.toNat y hxb ⟨hgn.1, hgn.2⟩ hy
                have n2 := num_sub e.toNat ⟨hgn.1, hgn.2⟩
                have hnx : Hid ((t2.take (j + 1)).all isDg = true ∧ y = valD (t2.take (j + 1))) := Lib.hid ⟨by rw [List.take_add_one, he, List.all_append, hall]; simp [hg], by rw [valD_take t2 j e he, ← hx]; exact hy.symm⟩
                replace hK := Lib.hid hK
                replace hp := Lib.hid hp
                clear hall hx hj he hg hgn hy hxb
                go_wp2_with fail
                go_roundw
                case rel => exact ⟨j + 1, y, _, rfl, by first | rfl | exact congrArg (Value.int .u64) n1, by first | rfl | exact congrArg (Value.int .i64) hw1, hp.out, hK.out, hnx.out.1, hnx.out.2⟩
                case measure => first | exact ms_step hp.out rfl | exact ms_step hp.out hw1
              · have hres : Hid (rr = none) := Lib.hid (by
                  rw [← hr.out]
                  unfold numR
                  rw [habs.out, if_neg (by rintro (q | q); exact hd0.out q; exact h19.out q), if_pos]
                  cases hq : t2.all isDg with
                  | false => rfl
                  | true => exact absurd (List.all_eq_true.1 hq e (List.mem_of_getElem? he)) hg)
                replace hK := Lib.hid hK
                by_cases hlo : e.toNat < 48
                · have f1 : decide ((e.toNat : Int) < 48) = true := decide_eq_true (by omega)
                  have f4 : decide (e.toNat < 48) = true := decide_eq_true hlo
                  clear hall hx hj he hg hxb hp
                  go_wp2_with fail
                  go_ret2
                  rw [hres.out]
                  exact ⟨rfl, hK.out⟩
                · have hhi : 57 < e.toNat := by
                    rcases Nat.lt_or_ge 57 e.toNat with q | q
                    · exact q
                    · exact absurd (decide_eq_true ⟨by omega, q⟩) hg
                  have f1 : decide ((e.toNat : Int) < 48) = false := decide_eq_false (by omega)
                  have f4 : decide (e.toNat < 48) = false := decide_eq_false hlo
                  have f2 : decide ((57 : Int) < (e.toNat : Int)) = true := decide_eq_true (by omega)
                  have f3 : decide ((e.toNat : Int) > 57) = true := f2
                  have f5 : decide (57 < e.toNat) = true := decide_eq_true hhi
                  clear hall hx hj he hg hxb hp hhi hlo
                  go_wp2_with fail
                  go_ret2
                  rw [hres.out]
                  exact ⟨rfl, hK.out⟩
            · obtain rfl : j = t2.length := by omega
              have d1 : decide ((t2.length : Int) < (t2.length : Int)) = false := decide_eq_false (by omega)
              rw [List.take_length] at hall hx
              have hres : Hid (rr = if Lib.itoa (valI t2) = t2 then some (valI t2) else none) := Lib.hid (by
                rw [← hr.out]
                unfold numR
                rw [habs.out, if_neg (by rintro (q | q); exact hd0.out q; exact h19.out q), if_neg (by rw [hall]; simp)])
              have hvi := hval.out x hx
              obtain ⟨vi, hv⟩ : ∃ vi, valI t2 = vi := ⟨_, rfl⟩
              have C := rDigits (valI t2) (valI_in t2).1 (valI_in t2).2
              rw [hv] at C hres hvi
              replace C := Lib.hid C
              replace hK := Lib.hid hK
              clear hall hx hj hp
              by_cases heq : Lib.itoa vi = t2
              · have hres2 : Hid (rr = some vi) := Lib.hid (by rw [hres.out, if_pos heq])
                have q1 : (Lib.itoa vi == t2) = true := beq_iff_eq.2 heq
                clear hres
                replace heq := Lib.hid heq
                obtain ⟨it, hit⟩ : ∃ it, Lib.itoa vi = it := ⟨_, rfl⟩
                rw [hit] at C q1
                go_wp2_with fail
                try rw [hvi]
                with_reducible refine (C.out V).mono ?_
                rintro e W2 ⟨rfl, hK2⟩
                have HK2 := Lib.hid (hK.out.trans (hK2.mono fun k hk => Nat.lt_of_lt_of_le hk hK.out.size))
                go_wp2_with fail
                go_ret2
                rw [hres2.out]
                exact ⟨rfl, HK2.out⟩
              · have hres2 : Hid (rr = none) := Lib.hid (by rw [hres.out, if_neg heq])
                have q1 : (Lib.itoa vi == t2) = false := beq_eq_false_iff_ne.2 heq
                clear hres
                replace heq := Lib.hid heq
                obtain ⟨it, hit⟩ : ∃ it, Lib.itoa vi = it := ⟨_, rfl⟩
                rw [hit] at C q1
                go_wp2_with fail
                try rw [hvi]
                with_reducible refine (C.out V).mono ?_
                rintro e W2 ⟨rfl, hK2⟩
                have HK2 := Lib.hid (hK.out.trans (hK2.mono fun k hk => Nat.lt_of_lt_of_le hk hK.out.size))
                go_wp2_with fail
                go_ret2
                rw [hres2.out]
                exact ⟨rfl, HK2.out⟩

/-- Number, of the document. -/
theorem rNumber (l : List UInt8) (hbig : l.length ≤ 100000) (w : World) :
    Calls Tryd.prog 35 #[.string ⟨l.toArray⟩] w fun e w' => e = .returned (.tuple #[.int .i64 (nvI (numW l)), .bool (numW l).isSome]) ∧ KeptIn (· < w.heap.size) w w' := by
  have := rNumber0 l hbig w
  rw [numR_eq] at this
  exact this

end Go.Proofs.YtlldmebjgidbaaaDoor
