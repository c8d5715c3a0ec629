/- Order: Parse. -/
import Derived.Test.YtlldmebjgidbaaaDoorFj20
set_option linter.unusedVariables false
set_option linter.unusedSimpArgs false
namespace Go.Proofs.YtlldmebjgidbaaaDoor
open Go.RowKit

theorem bytS_len {t b : List UInt8} (h : bytS t = some b) : b.length ≤ t.length := by
  have := (bytS_iff t b).1 h
  rw [this]
  unfold runesOf
  split
  · rename_i e; rw [e]; simp
  · rw [rs_len]; omega
theorem mapO_byt {m : Nat} {l : List (List UInt8)} : ∀ {r : List (List UInt8)}, (∀ t ∈ l, t.length ≤ m) → mapO bytS l = some r → ∀ x ∈ r, x.length ≤ m := by
  induction l with
  | nil => intro r _ h x hx; simp only [mapO, Option.some.injEq] at h; subst h; simp at hx
  | cons t l ih =>
    intro r hm h x hx
    simp only [mapO] at h
    cases h1 : bytS t with
    | none => rw [h1] at h; exact absurd h (by simp)
    | some y =>
      cases h2 : mapO bytS l with
      | none => rw [h1, h2] at h; exact absurd h (by simp)
      | some ys =>
        rw [h1, h2] at h
        simp only [Option.some.injEq] at h
        subst h
        rcases List.mem_cons.1 hx with rfl | hx
        · exact Nat.le_trans (bytS_len h1) (hm t (by simp))
        · exact ih (fun q hq => hm q (by simp [hq])) h2 x hx

theorem RowN.rd' {a : Option Addr} {n : Nat} {ns : List Int} {B : Nat} {w : World} (h : RowN (.slice a n n) ns B w) : RdN a ns w := by
  obtain ⟨b, e, r⟩ := h.rd
  simp only [Value.slice.injEq] at e
  rw [e.1]
  exact r
theorem RowT.rd' {a : Option Addr} {n : Nat} {ts : List (List UInt8)} {B : Nat} {w : World} (h : RowT (.slice a n n) ts B w) : RdT a ts w := by
  obtain ⟨b, e, r⟩ := h.rd
  simp only [Value.slice.injEq] at e
  rw [e.1]
  exact r
theorem wrap_add (a b : Nat) (h : a + b ≤ 1000000) : wrap64 ((a : Int) + (b : Int)) = ((a + b : Nat) : Int) := by unfold wrap64; omega

set_option maxRecDepth 1000000 in
set_option maxHeartbeats 4000000 in
theorem oParse (l : List UInt8) (hl : l.length ≤ 1000000) (w : World) (T : Tb20 w) :
    Calls Tryd.prog 15 #[.string ⟨l.toArray⟩] w fun e w' => e = .returned (.tuple #[prV (parseO l), .int .i64 (prE (parseO l))]) ∧ KeptIn (· < w.heap.size) w w' := by
  have C := Lib.hid (tSplit l hl w T)
  obtain ⟨n1, n5⟩ := wd5_len l
  have hmem : Hid (∀ t ∈ wd5 l, t.length ≤ l.length) := Lib.hid fun t ht => wdk_mem _ l t ht
  have hwd := Lib.hid (wd5_is l)
  have hhd := wd5_head l
  have hpo : Hid (parseO l = parseO l) := Lib.hid rfl
  obtain ⟨ws, hws⟩ : ∃ ws, wd5 l = ws := ⟨_, rfl⟩
  obtain ⟨o, ho⟩ : ∃ o, parseO l = o := ⟨_, rfl⟩
  rw [hws] at C n1 n5 hmem hwd hhd
  rw [ho]
  obtain ⟨hd, tl, rfl⟩ : ∃ hd tl, ws = hd :: tl := by
    cases ws with
    | nil => simp at n1
    | cons a b => exact ⟨a, b, rfl⟩
  rw [List.head?_cons] at hhd
  obtain ⟨m, hm⟩ : ∃ m, tl.length = m := ⟨_, rfl⟩
  rw [List.length_cons, hm] at C n5
  replace hhd := Lib.hid hhd
  replace ho := Lib.hid ho
  replace hm := Lib.hid hm
  replace hl := Lib.hid hl
  clear n1 hpo hws
  go_enter Tryd.func15, Tryd.ntmps15
  go_wp2_with fail
  refine C.out.mono ?_
  rintro e W ⟨g, cap, rfl, q1, q2, q3, hR, hK⟩
  clear C
  obtain ⟨c, rfl⟩ : ∃ c, cap = c + 1 := ⟨cap - 1, by omega⟩
  have hc0 := hR 0 hd rfl
  rw [Nat.add_zero] at hc0
  have hR1 : Hid (RdS g 1 tl W) := Lib.hid (hR.drop 1)
  have hK1 := Lib.hid hK
  have hgW : Hid (g < W.heap.size) := by
    refine Lib.hid ?_
    rcases Nat.lt_or_ge g W.heap.size with h' | h'
    · exact h'
    · unfold World.cell? at hc0
      rw [Array.getElem?_eq_none h'] at hc0
      exact absurd hc0 (by simp)
  have q4 : (0 : Int) < ((m + 1 : Nat) : Int) := by omega
  have q5 : m ≤ c := by omega
  have q6 : c ≤ 4 := by omega
  clear hR hK q1 q2 q3 n5
  go_wp2_with fail
  refine (oBlank hd W).mono ?_
  rintro e W2 ⟨rfl, hK2⟩
  have hR2 : Hid (RdS g 1 tl W2) := Lib.hid (hR1.out.low hgW.out hK2)
  have hgW2 : Hid (g < W2.heap.size) := Lib.hid (Nat.lt_of_lt_of_le hgW.out hK2.size)
  have HK2 : Hid (KeptIn (· < w.heap.size) w W2) := Lib.hid (hK1.out.trans (hK2.mono fun k hk => Nat.lt_of_lt_of_le hk hK1.out.size))
  clear hc0 hR1 hgW hK1 hK2
  cases hkd : kindOf hd with
  | none =>
    have hb : blV hd = .nilIface := by unfold blV; rw [hkd]
    have hon : Hid (o = none) := Lib.hid (by rw [← ho.out]; unfold parseO; rw [← hhd.out]; simp [hkd])
    rw [hb]
    clear hb
    go_wp2_with fail
    refine (oFieldsNil W2).mono ?_
    rintro e W3 ⟨rfl, hW3⟩
    rw [hW3]
    clear hW3
    by_cases hc : c = 0
    · subst hc
      obtain rfl : m = 0 := by omega
      go_wp2_with fail
      go_ret2
      rw [hon.out]
      exact ⟨rfl, HK2.out⟩
    · have e1 : ((c + 1 : Nat) == 1) = false := beq_eq_false_iff_ne.2 (by omega)
      have e2 : (c == 0) = false := beq_eq_false_iff_ne.2 hc
      have e3 : (((c + 1 : Nat) : Int) == 1) = false := beq_eq_false_iff_ne.2 (by omega)
      go_wp2_with fail
      go_ret2
      rw [hon.out]
      exact ⟨rfl, HK2.out⟩
  | some k =>
    have hb : blV hd = valO (zo k) := by unfold blV; rw [hkd]
    obtain ⟨hk15, _⟩ := kindOf_is hkd
    have hcc := cn_ct k hk15
    have C2 := oFields (zo k) (zo_ok k hk15) W2
    unfold FldP at C2
    rw [hb]
    have hnz : (zo k).ns.length = cn k := by simp [zo]
    have htz : (zo k).ts.length = ct k := by simp [zo]
    have CW : Hid (∀ ns ts, (⟨k, ns, ts⟩ : Od).ok → WithP ⟨k, ns, ts⟩ ∧ ∀ V, Calls Tryd.prog 32 #[valO ⟨k, ns, ts⟩] V fun e w' => e = .returned (.bool (canT ts)) ∧ KeptIn (· < V.heap.size) V w') := Lib.hid fun ns ts h => ⟨oWith _ h, fun V => oCan _ h V⟩
    have hpar : Hid (∀ ns ts, mapO numW (tl.take (cn k)) = some ns → mapO bytS (tl.drop (cn k)) = some ts → hd :: tl = wds l → tl.length = cn k + ct k → o = if canT ts = true then some ⟨k, ns, ts⟩ else none) := Lib.hid fun ns ts h1 h2 h3 h4 => by
      rw [← ho.out]
      unfold parseO
      rw [← h3]
      simp only [List.head?_cons, Option.bind_some, hkd, List.length_cons, List.tail_cons, h1, h2]
      rw [if_neg (by omega)]
    have hbad : Hid ((mapO numW (tl.take (cn k)) = none ∨ mapO bytS (tl.drop (cn k)) = none) → hd :: tl = wds l → o = none) := Lib.hid fun h h3 => by
      rw [← ho.out]
      unfold parseO
      rw [← h3]
      simp only [List.head?_cons, Option.bind_some, hkd, List.length_cons, List.tail_cons]
      split
      · rfl
      · rcases h with h | h
        · rw [h]
        · rw [h]
          cases mapO numW (tl.take (cn k)) <;> rfl
    have hlen2 : Hid (tl.length ≠ cn k + ct k → o = none) := Lib.hid fun h => by
      rw [← ho.out]
      unfold parseO
      rw [← hhd.out]
      simp only [Option.bind_some, hkd]
      rw [if_pos]
      intro e
      have h2 := (hwd.out (1 + (cn k + ct k)) (by omega)).2 e
      rw [← h2] at e
      rw [List.length_cons] at e
      omega
    have hz : valO (zo k) = .iface (tyO k) (.agg (numC (zo k).ns ++ txtC (zo k).ts).toArray) := rfl
    obtain ⟨x, hx⟩ : ∃ x, valO (zo k) = x := ⟨_, rfl⟩
    have CW2 : Hid (∀ ns ts, (⟨k, ns, ts⟩ : Od).ok → ∀ (a1 a2 : Option Addr) (V : World), RdN a1 ns V → RdT a2 ts V →
        Calls Tryd.prog 31 #[x, .slice a1 ns.length ns.length, .slice a2 ts.length ts.length] V fun e w' => e = .returned (valO ⟨k, ns, ts⟩) ∧ KeptIn (· < V.heap.size) V w') := Lib.hid fun ns ts h => by
      have := (CW.out ns ts h).1
      unfold WithP at this
      simp only at this
      rw [hx] at this
      exact this
    rw [hx] at C2 ⊢
    rw [hx] at hz
    have hok : Hid (∀ ns ts, mapO numW (tl.take (cn k)) = some ns → mapO bytS (tl.drop (cn k)) = some ts → tl.length = cn k + ct k → (⟨k, ns, ts⟩ : Od).ok) := Lib.hid fun ns ts h1 h2 h4 =>
      parse_ok hk15 h1 h2 (by rw [List.length_take]; omega) (by rw [List.length_drop]; omega) (mapO_byt (m := 1099511627776) (fun t ht => by
        have h5 := hmem.out t (List.mem_cons_of_mem _ (List.mem_of_mem_drop ht))
        have h6 := hl.out
        omega) h2)
    obtain ⟨nn, hnn⟩ : ∃ nn, cn k = nn := ⟨_, rfl⟩
    obtain ⟨nt, hnt⟩ : ∃ nt, ct k = nt := ⟨_, rfl⟩
    rw [hnn] at hcc hnz hpar hbad hlen2 hok
    rw [hnt] at hcc htz hpar hlen2 hok
    replace C2 := Lib.hid C2
    replace hz := Lib.hid hz
    replace hnz := Lib.hid hnz
    replace htz := Lib.hid htz
    clear hx hb hkd hk15 hnn hnt
    go_wp2_with fail
    refine C2.out.mono ?_
    rintro e W3 ⟨v1, v2, rfl, r1, r2, hK3⟩
    clear C2
    obtain ⟨a1, rfl, _⟩ := r1.rd
    obtain ⟨a2, rfl, _⟩ := r2.rd
    rw [hnz.out] at r1 ⊢
    rw [htz.out] at r2 ⊢
    replace r1 := Lib.hid r1
    replace r2 := Lib.hid r2
    have hR3 : Hid (RdS g 1 tl W3) := Lib.hid (hR2.out.low hgW2.out hK3)
    have HK3 : Hid (KeptIn (· < w.heap.size) w W3) := Lib.hid (HK2.out.trans (hK3.mono fun k hk => Nat.lt_of_lt_of_le hk HK2.out.size))
    have hB3 : Hid (W2.heap.size ≤ W3.heap.size ∧ w.heap.size ≤ W2.heap.size) := Lib.hid ⟨hK3.size, HK2.out.size⟩
    clear hR2 HK2 hK3
    have e4 := wrap_add nn nt (by omega)
    by_cases hmm : m = nn + nt
    · subst hmm
      have hwl : Hid (hd :: tl = wds l) := Lib.hid ((hwd.out (nn + nt + 1) (by omega)).1 (by rw [List.length_cons, hm.out]))
      have hlens : Hid (∀ t ∈ tl, t.length ≤ 1099511627776) := Lib.hid fun t ht => by
        have h5 := hmem.out t (List.mem_cons_of_mem _ ht)
        have h6 := hl.out
        omega
      clear hlen2 hwd hmem hhd ho hl
      by_cases hc : c = 0
      · subst hc
        obtain rfl : nn = 0 := by omega
        obtain rfl : nt = 0 := by omega
        have hRQ : Hid (RdS g 0 tl W3) := Lib.hid (by rw [show tl = [] from List.length_eq_zero_iff.1 hm.out]; intro j t ht; simp at ht)
        have hcn : (0 : Nat) = 0 := rfl
        clear hR3
        go_wp2_with fail
        refine (fillN _ _ W2.heap.size 0 g 0 (0 + 0) 0 tl W3 r1.out hnz.out (by omega) hm.out (by omega) (by omega) hRQ.out hgW2.out hlens.out).mono ?_
        intro e W4 h
        cases h1 : mapO numW (tl.take 0) with
        | none =>
          rw [h1] at h
          obtain ⟨rfl, hkv⟩ := h
          have HK4 : Hid (KeptIn (· < w.heap.size) w W4) := Lib.hid (HK3.out.trans ((hkv.lowN r1.out hB3.out.1).mono fun k hk => Nat.lt_of_lt_of_le hk hB3.out.2))
          have hon : Hid (o = none) := Lib.hid (hbad.out (Or.inl h1) hwl.out)
          clear hkv h1
          go_wp2_with fail
          go_ret2
          rw [hon.out]
          exact ⟨rfl, HK4.out⟩
        | some ns =>
          rw [h1] at h
          obtain ⟨rfl, rr1, hkv⟩ := h
          have HK4 : Hid (KeptIn (· < w.heap.size) w W4) := Lib.hid (HK3.out.trans ((hkv.lowN r1.out hB3.out.1).mono fun k hk => Nat.lt_of_lt_of_le hk hB3.out.2))
          have hB4 : Hid (W2.heap.size ≤ W4.heap.size) := Lib.hid (Nat.le_trans hB3.out.1 hkv.size)
          have rr2 := Lib.hid (r2.out.keptN r1.out hkv)
          have hR4 : Hid (RdS g 0 (tl.drop 0) W4) := Lib.hid (by first | exact (hRQ.out.low hgW2.out (hkv.lowN r1.out hB3.out.1)).drop 0 | (rw [List.drop_of_length_le (by have := hm.out; omega)]; intro j t ht; simp at ht))
          have hnl : Hid (ns.length = 0) := Lib.hid (by have := hm.out; rw [mapO_len h1]; simp only [List.length_take]; omega)
          replace rr1 := Lib.hid rr1
          replace h1 := Lib.hid h1
          clear hkv
          go_wp2_with fail
          refine (fillT _ _ W2.heap.size 0 g 0 0 0 (tl.drop 0) W4 rr2.out htz.out (by omega) (by have := hm.out; simp only [List.length_drop]; omega) (by omega) (by omega) hR4.out hgW2.out (fun t ht => hlens.out t (List.mem_of_mem_drop ht))).mono ?_
          intro e W5 h
          rw [List.take_of_length_le (by have := hm.out; simp only [List.length_drop]; omega)] at h
          cases h2 : mapO bytS (tl.drop 0) with
          | none =>
            rw [h2] at h
            obtain ⟨rfl, hkv⟩ := h
            have HK5 : Hid (KeptIn (· < w.heap.size) w W5) := Lib.hid (HK4.out.trans ((hkv.lowT rr2.out hB4.out).mono fun k hk => Nat.lt_of_lt_of_le hk hB3.out.2))
            have hon : Hid (o = none) := Lib.hid (hbad.out (Or.inr h2) hwl.out)
            clear hkv h2
            go_wp2_with fail
            go_ret2
            rw [hon.out]
            exact ⟨rfl, HK5.out⟩
          | some ts =>
            rw [h2] at h
            obtain ⟨rfl, rt2, hkv⟩ := h
            have HK5 : Hid (KeptIn (· < w.heap.size) w W5) := Lib.hid (HK4.out.trans ((hkv.lowT rr2.out hB4.out).mono fun k hk => Nat.lt_of_lt_of_le hk hB3.out.2))
            have rn2 := Lib.hid (rr1.out.keptT rr2.out hkv)
            have htl : Hid (ts.length = 0) := Lib.hid (by have := hm.out; rw [mapO_len h2]; simp only [List.length_drop]; omega)
            have hod := Lib.hid (hok.out ns ts h1.out h2 hm.out)
            have hres := Lib.hid (hpar.out ns ts h1.out h2 hwl.out hm.out)
            have C5 := (CW2.out ns ts hod.out) a1 a2 W5 (by have := rn2.out; exact this.rd') (by exact rt2.rd')
            have C6 := Lib.hid (CW.out ns ts hod.out).2
            rw [hnl.out, htl.out] at C5
            replace C5 := Lib.hid C5
            clear hkv h2 rt2 rr1 rr2 rn2 hR4
            go_wp2_with fail
            refine C5.out.mono ?_
            rintro e W6 ⟨rfl, hK6⟩
            have HK6 : Hid (KeptIn (· < w.heap.size) w W6) := Lib.hid (HK5.out.trans (hK6.mono fun k hk => Nat.lt_of_lt_of_le hk HK5.out.size))
            clear C5 hK6
            obtain ⟨y, hy⟩ : ∃ y, valO ⟨k, ns, ts⟩ = y := ⟨_, rfl⟩
            rw [hy] at C6 ⊢
            replace hy := Lib.hid hy
            go_wp2_with fail
            refine (C6.out W6).mono ?_
            rintro e W7 ⟨rfl, hK7⟩
            have HK7 : Hid (KeptIn (· < w.heap.size) w W7) := Lib.hid (HK6.out.trans (hK7.mono fun k hk => Nat.lt_of_lt_of_le hk HK6.out.size))
            clear C6 hK7
            cases hct : canT ts with
            | false =>
              have hon : Hid (o = none) := Lib.hid (by rw [hres.out, hct]; rfl)
              clear hres
              go_wp2_with fail
              go_ret2
              rw [hon.out]
              exact ⟨rfl, HK7.out⟩
            | true =>
              have hon : Hid (o = some ⟨k, ns, ts⟩) := Lib.hid (by rw [hres.out, hct]; rfl)
              clear hres
              go_wp2_with fail
              go_ret2
              rw [hon.out]
              refine ⟨?_, HK7.out⟩
              show _ = Ending.returned (.tuple #[valO ⟨k, ns, ts⟩, .int .i64 0])
              rw [hy.out]
              rfl
      · have e1 : ((c + 1 : Nat) == 1) = false := beq_eq_false_iff_ne.2 (by omega)
        have e2 : (c == 0) = false := beq_eq_false_iff_ne.2 hc
        have e3 : (((c + 1 : Nat) : Int) == 1) = false := beq_eq_false_iff_ne.2 (by omega)
        have hRQ := hR3
        clear hR3
        by_cases hcn : c = nn
        · subst hcn
          obtain rfl : nt = 0 := by omega
          go_wp2_with fail
          refine (fillN _ _ W2.heap.size c g 1 (c + 0) c tl W3 r1.out hnz.out (by omega) hm.out (by omega) (by omega) hRQ.out hgW2.out hlens.out).mono ?_
          intro e W4 h
          cases h1 : mapO numW (tl.take c) with
          | none =>
            rw [h1] at h
            obtain ⟨rfl, hkv⟩ := h
            have HK4 : Hid (KeptIn (· < w.heap.size) w W4) := Lib.hid (HK3.out.trans ((hkv.lowN r1.out hB3.out.1).mono fun k hk => Nat.lt_of_lt_of_le hk hB3.out.2))
            have hon : Hid (o = none) := Lib.hid (hbad.out (Or.inl h1) hwl.out)
            clear hkv h1
            go_wp2_with fail
            go_ret2
            rw [hon.out]
            exact ⟨rfl, HK4.out⟩
          | some ns =>
            rw [h1] at h
            obtain ⟨rfl, rr1, hkv⟩ := h
            have HK4 : Hid (KeptIn (· < w.heap.size) w W4) := Lib.hid (HK3.out.trans ((hkv.lowN r1.out hB3.out.1).mono fun k hk => Nat.lt_of_lt_of_le hk hB3.out.2))
            have hB4 : Hid (W2.heap.size ≤ W4.heap.size) := Lib.hid (Nat.le_trans hB3.out.1 hkv.size)
            have rr2 := Lib.hid (r2.out.keptN r1.out hkv)
            have hR4 : Hid (RdS g 1 (tl.drop c) W4) := Lib.hid (by first | exact (hRQ.out.low hgW2.out (hkv.lowN r1.out hB3.out.1)).drop c | (rw [List.drop_of_length_le (by have := hm.out; omega)]; intro j t ht; simp at ht))
            have hnl : Hid (ns.length = c) := Lib.hid (by have := hm.out; rw [mapO_len h1]; simp only [List.length_take]; omega)
            replace rr1 := Lib.hid rr1
            replace h1 := Lib.hid h1
            clear hkv
            go_wp2_with fail
            refine (fillT _ _ W2.heap.size 0 g 1 0 0 (tl.drop c) W4 rr2.out htz.out (by omega) (by have := hm.out; simp only [List.length_drop]; omega) (by omega) (by omega) hR4.out hgW2.out (fun t ht => hlens.out t (List.mem_of_mem_drop ht))).mono ?_
            intro e W5 h
            rw [List.take_of_length_le (by have := hm.out; simp only [List.length_drop]; omega)] at h
            cases h2 : mapO bytS (tl.drop c) with
            | none =>
              rw [h2] at h
              obtain ⟨rfl, hkv⟩ := h
              have HK5 : Hid (KeptIn (· < w.heap.size) w W5) := Lib.hid (HK4.out.trans ((hkv.lowT rr2.out hB4.out).mono fun k hk => Nat.lt_of_lt_of_le hk hB3.out.2))
              have hon : Hid (o = none) := Lib.hid (hbad.out (Or.inr h2) hwl.out)
              clear hkv h2
              go_wp2_with fail
              go_ret2
              rw [hon.out]
              exact ⟨rfl, HK5.out⟩
            | some ts =>
              rw [h2] at h
              obtain ⟨rfl, rt2, hkv⟩ := h
              have HK5 : Hid (KeptIn (· < w.heap.size) w W5) := Lib.hid (HK4.out.trans ((hkv.lowT rr2.out hB4.out).mono fun k hk => Nat.lt_of_lt_of_le hk hB3.out.2))
              have rn2 := Lib.hid (rr1.out.keptT rr2.out hkv)
              have htl : Hid (ts.length = 0) := Lib.hid (by have := hm.out; rw [mapO_len h2]; simp only [List.length_drop]; omega)
              have hod := Lib.hid (hok.out ns ts h1.out h2 hm.out)
              have hres := Lib.hid (hpar.out ns ts h1.out h2 hwl.out hm.out)
              have C5 := (CW2.out ns ts hod.out) a1 a2 W5 (by have := rn2.out; exact this.rd') (by exact rt2.rd')
              have C6 := Lib.hid (CW.out ns ts hod.out).2
              rw [hnl.out, htl.out] at C5
              replace C5 := Lib.hid C5
              clear hkv h2 rt2 rr1 rr2 rn2 hR4
              go_wp2_with fail
              refine C5.out.mono ?_
              rintro e W6 ⟨rfl, hK6⟩
              have HK6 : Hid (KeptIn (· < w.heap.size) w W6) := Lib.hid (HK5.out.trans (hK6.mono fun k hk => Nat.lt_of_lt_of_le hk HK5.out.size))
              clear C5 hK6
              obtain ⟨y, hy⟩ : ∃ y, valO ⟨k, ns, ts⟩ = y := ⟨_, rfl⟩
              rw [hy] at C6 ⊢
              replace hy := Lib.hid hy
              go_wp2_with fail
              refine (C6.out W6).mono ?_
              rintro e W7 ⟨rfl, hK7⟩
              have HK7 : Hid (KeptIn (· < w.heap.size) w W7) := Lib.hid (HK6.out.trans (hK7.mono fun k hk => Nat.lt_of_lt_of_le hk HK6.out.size))
              clear C6 hK7
              cases hct : canT ts with
              | false =>
                have hon : Hid (o = none) := Lib.hid (by rw [hres.out, hct]; rfl)
                clear hres
                go_wp2_with fail
                go_ret2
                rw [hon.out]
                exact ⟨rfl, HK7.out⟩
              | true =>
                have hon : Hid (o = some ⟨k, ns, ts⟩) := Lib.hid (by rw [hres.out, hct]; rfl)
                clear hres
                go_wp2_with fail
                go_ret2
                rw [hon.out]
                refine ⟨?_, HK7.out⟩
                show _ = Ending.returned (.tuple #[valO ⟨k, ns, ts⟩, .int .i64 0])
                rw [hy.out]
                rfl
        · have f1 : (c == nn) = false := beq_eq_false_iff_ne.2 hcn
          have f2 : ((c : Int) == (nn : Int)) = false := beq_eq_false_iff_ne.2 (by omega)
          go_wp2_with fail
          refine (fillN _ _ W2.heap.size nn g 1 (nn + nt) c tl W3 r1.out hnz.out (by omega) hm.out (by omega) (by omega) hRQ.out hgW2.out hlens.out).mono ?_
          intro e W4 h
          cases h1 : mapO numW (tl.take nn) with
          | none =>
            rw [h1] at h
            obtain ⟨rfl, hkv⟩ := h
            have HK4 : Hid (KeptIn (· < w.heap.size) w W4) := Lib.hid (HK3.out.trans ((hkv.lowN r1.out hB3.out.1).mono fun k hk => Nat.lt_of_lt_of_le hk hB3.out.2))
            have hon : Hid (o = none) := Lib.hid (hbad.out (Or.inl h1) hwl.out)
            clear hkv h1
            go_wp2_with fail
            go_ret2
            rw [hon.out]
            exact ⟨rfl, HK4.out⟩
          | some ns =>
            rw [h1] at h
            obtain ⟨rfl, rr1, hkv⟩ := h
            have HK4 : Hid (KeptIn (· < w.heap.size) w W4) := Lib.hid (HK3.out.trans ((hkv.lowN r1.out hB3.out.1).mono fun k hk => Nat.lt_of_lt_of_le hk hB3.out.2))
            have hB4 : Hid (W2.heap.size ≤ W4.heap.size) := Lib.hid (Nat.le_trans hB3.out.1 hkv.size)
            have rr2 := Lib.hid (r2.out.keptN r1.out hkv)
            have hR4 : Hid (RdS g (1 + nn) (tl.drop nn) W4) := Lib.hid (by first | exact (hRQ.out.low hgW2.out (hkv.lowN r1.out hB3.out.1)).drop nn | (rw [List.drop_of_length_le (by have := hm.out; omega)]; intro j t ht; simp at ht))
            have hnl : Hid (ns.length = nn) := Lib.hid (by have := hm.out; rw [mapO_len h1]; simp only [List.length_take]; omega)
            replace rr1 := Lib.hid rr1
            replace h1 := Lib.hid h1
            clear hkv
            go_wp2_with fail
            refine (fillT _ _ W2.heap.size nt g (1 + nn) nt (c - nn) (tl.drop nn) W4 rr2.out htz.out (by omega) (by have := hm.out; simp only [List.length_drop]; omega) (by omega) (by omega) hR4.out hgW2.out (fun t ht => hlens.out t (List.mem_of_mem_drop ht))).mono ?_
            intro e W5 h
            rw [List.take_of_length_le (by have := hm.out; simp only [List.length_drop]; omega)] at h
            cases h2 : mapO bytS (tl.drop nn) with
            | none =>
              rw [h2] at h
              obtain ⟨rfl, hkv⟩ := h
              have HK5 : Hid (KeptIn (· < w.heap.size) w W5) := Lib.hid (HK4.out.trans ((hkv.lowT rr2.out hB4.out).mono fun k hk => Nat.lt_of_lt_of_le hk hB3.out.2))
              have hon : Hid (o = none) := Lib.hid (hbad.out (Or.inr h2) hwl.out)
              clear hkv h2
              go_wp2_with fail
              go_ret2
              rw [hon.out]
              exact ⟨rfl, HK5.out⟩
            | some ts =>
              rw [h2] at h
              obtain ⟨rfl, rt2, hkv⟩ := h
              have HK5 : Hid (KeptIn (· < w.heap.size) w W5) := Lib.hid (HK4.out.trans ((hkv.lowT rr2.out hB4.out).mono fun k hk => Nat.lt_of_lt_of_le hk hB3.out.2))
              have rn2 := Lib.hid (rr1.out.keptT rr2.out hkv)
              have htl : Hid (ts.length = nt) := Lib.hid (by have := hm.out; rw [mapO_len h2]; simp only [List.length_drop]; omega)
              have hod := Lib.hid (hok.out ns ts h1.out h2 hm.out)
              have hres := Lib.hid (hpar.out ns ts h1.out h2 hwl.out hm.out)
              have C5 := (CW2.out ns ts hod.out) a1 a2 W5 (by have := rn2.out; exact this.rd') (by exact rt2.rd')
              have C6 := Lib.hid (CW.out ns ts hod.out).2
              rw [hnl.out, htl.out] at C5
              replace C5 := Lib.hid C5
              clear hkv h2 rt2 rr1 rr2 rn2 hR4
              go_wp2_with fail
              refine C5.out.mono ?_
              rintro e W6 ⟨rfl, hK6⟩
              have HK6 : Hid (KeptIn (· < w.heap.size) w W6) := Lib.hid (HK5.out.trans (hK6.mono fun k hk => Nat.lt_of_lt_of_le hk HK5.out.size))
              clear C5 hK6
              obtain ⟨y, hy⟩ : ∃ y, valO ⟨k, ns, ts⟩ = y := ⟨_, rfl⟩
              rw [hy] at C6 ⊢
              replace hy := Lib.hid hy
              go_wp2_with fail
              refine (C6.out W6).mono ?_
              rintro e W7 ⟨rfl, hK7⟩
              have HK7 : Hid (KeptIn (· < w.heap.size) w W7) := Lib.hid (HK6.out.trans (hK7.mono fun k hk => Nat.lt_of_lt_of_le hk HK6.out.size))
              clear C6 hK7
              cases hct : canT ts with
              | false =>
                have hon : Hid (o = none) := Lib.hid (by rw [hres.out, hct]; rfl)
                clear hres
                go_wp2_with fail
                go_ret2
                rw [hon.out]
                exact ⟨rfl, HK7.out⟩
              | true =>
                have hon : Hid (o = some ⟨k, ns, ts⟩) := Lib.hid (by rw [hres.out, hct]; rfl)
                clear hres
                go_wp2_with fail
                go_ret2
                rw [hon.out]
                refine ⟨?_, HK7.out⟩
                show _ = Ending.returned (.tuple #[valO ⟨k, ns, ts⟩, .int .i64 0])
                rw [hy.out]
                rfl
    · have hon : Hid (o = none) := Lib.hid (hlen2.out (by rw [hm.out]; exact hmm))
      have hne : ((m : Int) != (nn : Int) + (nt : Int)) = true := by
        rw [bne_iff_ne]
        omega
      by_cases hc : c = 0
      · subst hc
        obtain rfl : m = 0 := by omega
        go_wp2_with fail
        go_ret2
        rw [hon.out]
        exact ⟨rfl, HK3.out⟩
      · have e1 : ((c + 1 : Nat) == 1) = false := beq_eq_false_iff_ne.2 (by omega)
        have e2 : (c == 0) = false := beq_eq_false_iff_ne.2 hc
        have e3 : (((c + 1 : Nat) : Int) == 1) = false := beq_eq_false_iff_ne.2 (by omega)
        go_wp2_with fail
        go_ret2
        rw [hon.out]
        exact ⟨rfl, HK3.out⟩

end Go.Proofs.YtlldmebjgidbaaaDoor
