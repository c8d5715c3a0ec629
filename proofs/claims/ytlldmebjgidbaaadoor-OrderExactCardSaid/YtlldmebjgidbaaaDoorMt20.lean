/- Order, the mathematics: what was told is read as it was. -/
import Derived.Test.YtlldmebjgidbaaaDoorSa20
set_option linter.unusedVariables false
set_option linter.unusedSimpArgs false
namespace Go.Proofs.YtlldmebjgidbaaaDoor
open Go.RowKit

theorem wds_cons (c : UInt8) (l : List UInt8) (h : c ≠ 32) : wds (c :: l) = cons1 c (wds l) := by rw [wds, if_neg h]
theorem wds_app : ∀ (x m : List UInt8), (∀ c ∈ x, c ≠ 32) → wds (x ++ 32 :: m) = x :: wds m
  | [], m, _ => by simp [wds]
  | c :: x, m, h => by
    have ih := wds_app x m (fun d hd => h d (by simp [hd]))
    rw [List.cons_append, wds_cons c _ (h c (by simp)), ih]
    rfl
theorem wds_one' (x : List UInt8) (h : ∀ c ∈ x, c ≠ 32) : wds x = [x] := by
  induction x with
  | nil => rfl
  | cons c x ih =>
    rw [wds_cons c _ (h c (by simp)), ih (fun d hd => h d (by simp [hd]))]
    rfl
theorem wds_join : ∀ (r : List (List UInt8)) (x : List UInt8), (∀ y ∈ x :: r, ∀ c ∈ y, c ≠ 32) → wds (Lib.join (x :: r) [32]) = x :: r
  | [], x, h => by rw [Lib.join_one]; exact wds_one' x (h x (by simp))
  | y :: r, x, h => by
    have ih := wds_join r y (fun z hz => h z (by simp only [List.mem_cons] at hz ⊢; exact Or.inr hz))
    have e : Lib.join (x :: y :: r) [32] = x ++ 32 :: Lib.join (y :: r) [32] := by
      rw [Lib.join_cons, Lib.join_cons]
      simp [Lib.joinTail]
    rw [e, wds_app x _ (h x (by simp)), ih]

theorem pl_id : ∀ l : List UInt8, (∀ c ∈ l, c.toNat ≠ 239) → pl l = l
  | [], _ => pl_nil
  | c :: l, h => by rw [pl_plain _ (h c (by simp)), pl_id l (fun d hd => h d (by simp [hd]))]
theorem itoa_mem' (n : Int) : ∀ c ∈ Lib.itoa n, c = 45 ∨ isDg c = true := by
  intro c hc
  unfold Lib.itoa at hc
  split at hc
  · rcases List.mem_cons.1 hc with h | h
    · exact Or.inl h
    · exact Or.inr (dec_dg _ c h)
  · exact Or.inr (dec_dg _ c hc)
theorem itoa_plain (n : Int) : pl (Lib.itoa n) = Lib.itoa n := pl_id _ fun c hc => by
  rcases itoa_mem' n c hc with h | h
  · rw [h]; decide
  · have := of_decide_eq_true h; omega
theorem itoa_blank (n : Int) : ∀ c ∈ Lib.itoa n, c ≠ 32 := fun c hc e => by
  rcases itoa_mem' n c hc with h | h
  · rw [e] at h; exact absurd h (by decide)
  · rw [e] at h; exact absurd h (by decide)
theorem runes_blank (t : List UInt8) : ∀ c ∈ runesOf t, c ≠ 32 := by
  intro c hc e
  subst e
  unfold runesOf at hc
  split at hc
  · exact absurd (List.mem_singleton.1 hc) (by decide)
  · unfold rs at hc
    obtain ⟨x, _, hx⟩ := List.mem_flatMap.1 hc
    have hb := b8_lt x
    unfold rs3 at hx
    rcases List.mem_cons.1 hx with h | hx
    · exact absurd h (by decide)
    · rcases List.mem_cons.1 hx with h | hx
      · have := congrArg UInt8.toNat h
        simp at this
        omega
      · have := congrArg UInt8.toNat (List.mem_singleton.1 hx)
        simp at this
        omega
theorem word_blank : ∀ k, k < 15 → ∀ c ∈ wordL k, c ≠ 32 := by decide
theorem kind_word : ∀ k, k < 15 → kindOf (wordL k) = some k := by decide

theorem mapO_map {α β : Type} {f : β → Option α} {g : α → β} : ∀ l : List α, (∀ x ∈ l, f (g x) = some x) → mapO f (l.map g) = some l
  | [], _ => rfl
  | x :: l, h => by
    simp only [List.map_cons, mapO, h x (by simp), mapO_map l (fun y hy => h y (by simp [hy]))]

theorem parse_text (o : Od) (h : o.ok) (hc : canT o.ts = true) : parseO (textL o) = some o := by
  have hw : wds (textL o) = wdsO o := by
    unfold textL wdsO
    refine wds_join _ _ fun y hy c hcy => ?_
    rcases List.mem_cons.1 hy with rfl | hy
    · exact word_blank o.k h.k c hcy
    · rcases List.mem_append.1 hy with hy | hy
      · obtain ⟨n, _, rfl⟩ := List.mem_map.1 hy
        exact itoa_blank n c hcy
      · obtain ⟨t, _, rfl⟩ := List.mem_map.1 hy
        exact runes_blank t c hcy
  unfold parseO
  rw [hw]
  unfold wdsO
  simp only [List.head?_cons, Option.bind_some, kind_word o.k h.k, List.tail_cons, List.length_cons, List.length_append, List.length_map, h.n, h.t]
  rw [if_neg (by omega)]
  have e1 : (o.ns.map Lib.itoa ++ o.ts.map runesOf).take (cn o.k) = o.ns.map Lib.itoa := by
    rw [List.take_left' (by rw [List.length_map]; exact h.n)]
  have e2 : (o.ns.map Lib.itoa ++ o.ts.map runesOf).drop (cn o.k) = o.ts.map runesOf := by
    rw [List.drop_left' (by rw [List.length_map]; exact h.n)]
  rw [e1, e2, mapO_map o.ns (fun n hn => by
    unfold numW
    rw [itoa_plain]
    exact numP_itoa n (h.i n hn).1 (h.i n hn).2), mapO_map o.ts (fun t _ => (bytS_iff _ t).2 rfl)]
  simp only [hc, if_true]

theorem text_inj (o p : Od) (ho : o.ok) (hp : p.ok) (co : canT o.ts = true) (cp : canT p.ts = true) : (textL o == textL p) = decide (((o.k + 1 : Nat) : Int) = ((p.k + 1 : Nat) : Int) ∧ o.ns = p.ns ∧ o.ts = p.ts) := by
  rw [Bool.eq_iff_iff, beq_iff_eq, decide_eq_true_iff]
  constructor
  · intro e
    have h1 := parse_text o ho co
    rw [e, parse_text p hp cp] at h1
    have h2 := Option.some.inj h1
    rw [h2]
    exact ⟨rfl, rfl, rfl⟩
  · rintro ⟨h1, h2, h3⟩
    have hk : o.k = p.k := by omega
    unfold textL wdsO
    rw [hk, h2, h3]

/-- An order that was read is one that can be. -/
theorem parse_sound (l : List UInt8) (o : Od) (hl : l.length ≤ 1000000) (h : parseO l = some o) : o.ok ∧ canT o.ts = true := by
  unfold parseO at h
  split at h
  · exact absurd h (by simp)
  · rename_i k hk
    split at h
    · exact absurd h (by simp)
    · rename_i hlen
      split at h
      · rename_i ns ts h1 h2
        split at h
        · rename_i hc
          simp only [Option.some.injEq] at h
          subst h
          have hk15 : k < 15 := by
            cases hh : (wds l).head? with
            | none => rw [hh] at hk; exact absurd hk (by simp)
            | some x => rw [hh] at hk; exact (kindOf_is hk).1
          have hlen' : (wds l).length = 1 + (cn k + ct k) := Decidable.byContradiction hlen
          refine ⟨parse_ok hk15 h1 h2 (by rw [List.length_take, List.length_tail]; omega) (by rw [List.length_drop, List.length_tail]; omega) (mapO_byt (m := 1099511627776) (fun t ht => ?_) h2), hc⟩
          have := wds_mem l t (List.mem_of_mem_tail (List.mem_of_mem_drop ht))
          omega
        · exact absurd h (by simp)
      · exact absurd h (by simp)

end Go.Proofs.YtlldmebjgidbaaaDoor
