/- Order: what the document's Parse comes to, step by step. -/
import Derived.Test.YtlldmebjgidbaaaDoorTq20
import Derived.Test.YtlldmebjgidbaaaDoorMt20
import Derived.Test.YtlldmebjgidbaaaDoorRb20
set_option linter.unusedVariables false
set_option linter.unusedSimpArgs false
namespace Go.Proofs.YtlldmebjgidbaaaDoor
open Go.RowKit

theorem mapO_none' {α β : Type} (f : α → Option β) : ∀ (l : List α) (x : α), x ∈ l → f x = none → mapO f l = none
  | y :: l, x, hm, e => by
    rcases List.mem_cons.1 hm with rfl | hm
    · simp [mapO, e]
    · simp [mapO, mapO_none' f l x hm e]
theorem mapO_mem {α β : Type} (f : α → Option β) : ∀ (l : List α) (r : List β) (x : α), mapO f l = some r → x ∈ l → ∃ y, f x = some y ∧ y ∈ r
  | y :: l, r, x, h, hm => by
    unfold mapO at h
    split at h
    · rename_i a b ha hb
      simp only [Option.some.injEq] at h
      subst h
      rcases List.mem_cons.1 hm with rfl | hm
      · exact ⟨a, ha, by simp⟩
      · obtain ⟨z, h1, h2⟩ := mapO_mem f l b x hb hm
        exact ⟨z, h1, by simp [h2]⟩
    · cases h
theorem mapO_length {α β : Type} (f : α → Option β) : ∀ (l : List α) (r : List β), mapO f l = some r → r.length = l.length
  | [], r, h => by simp [mapO] at h; simp [h]
  | y :: l, r, h => by
    unfold mapO at h
    split at h
    · rename_i a b ha hb
      simp only [Option.some.injEq] at h
      subst h
      simp [mapO_length f l b hb]
    · cases h

def PI (rest : List (List UInt8)) (c j : Nat) (ns : List Int) (ts : List (List UInt8)) : Prop :=
  mapO numW ((rest.take j).take c) = some ns ∧ mapO bytS ((rest.take j).drop c) = some ts ∧ canT ts = true
theorem PI.start (rest : List (List UInt8)) (c : Nat) : PI rest c 0 [] [] := ⟨by simp [mapO], by simp [mapO], rfl⟩
theorem PI.lens {rest : List (List UInt8)} {c j : Nat} {ns : List Int} {ts : List (List UInt8)} (h : PI rest c j ns ts) (hj : j ≤ rest.length) : ns.length ≤ j ∧ ts.length ≤ j := by
  have h1 := mapO_length _ _ _ h.1
  have h2 := mapO_length _ _ _ h.2.1
  simp at h1 h2
  omega
theorem PI.num {rest : List (List UInt8)} {c j : Nat} {ns : List Int} {ts : List (List UInt8)} (h : PI rest c j ns ts) {x : List UInt8} {n : Int} (hx : rest[j]? = some x) (hj : j < c) (e : numW x = some n) : PI rest c (j + 1) (ns ++ [n]) ts := by
  have hl := (List.getElem?_eq_some_iff.1 hx).1
  have e1 : ∀ m, m ≤ c → (rest.take m).take c = rest.take m := fun m hm => List.take_of_length_le (by rw [List.length_take]; omega)
  have e2 : ∀ m, m ≤ c → (rest.take m).drop c = [] := fun m hm => List.drop_eq_nil_of_le (by rw [List.length_take]; omega)
  obtain ⟨h1, h2, h3⟩ := h
  rw [e1 j (by omega)] at h1
  rw [e2 j (by omega)] at h2
  refine ⟨?_, ?_, h3⟩
  · rw [e1 (j + 1) (by omega), List.take_add_one, hx, show (some x).toList = [x] from rfl, mapO_snoc, h1, e]
  · rw [e2 (j + 1) (by omega)]
    exact h2
theorem PI.txt {rest : List (List UInt8)} {c j : Nat} {ns : List Int} {ts : List (List UInt8)} (h : PI rest c j ns ts) {x t : List UInt8} (hx : rest[j]? = some x) (hj : c ≤ j) (e : bytS x = some t) (ht : t.length ≤ 512) : PI rest c (j + 1) ns (ts ++ [t]) := by
  have hl := (List.getElem?_eq_some_iff.1 hx).1
  obtain ⟨h1, h2, h3⟩ := h
  refine ⟨?_, ?_, ?_⟩
  · rw [List.take_take] at h1 ⊢
    rw [show min c (j + 1) = min c j by omega]
    exact h1
  · rw [List.take_add_one, hx, show (some x).toList = [x] from rfl, List.drop_append_of_le_length (by rw [List.length_take]; omega), mapO_snoc, h2, e]
  · unfold canT at h3 ⊢
    rw [List.all_append, h3]
    simp [ht]
variable {l w0 : List UInt8} {rest : List (List UInt8)} {k : Nat}
theorem parse_unf (hL : wds l = w0 :: rest) (hk : kindOf w0 = some k) : parseO l = if rest.length + 1 ≠ 1 + (cn k + ct k) then none else
    match mapO numW (rest.take (cn k)), mapO bytS (rest.drop (cn k)) with
    | some ns, some ts => if canT ts = true then some ⟨k, ns, ts⟩ else none
    | _, _ => none := by
  unfold parseO
  rw [hL]
  simp only [List.head?_cons, Option.bind_some, hk, List.length_cons, List.tail_cons]
  rfl
theorem parse_nokind (hL : wds l = w0 :: rest) (hk : kindOf w0 = none) : parseO l = none := by
  unfold parseO
  rw [hL]
  simp [hk]
theorem parse_nolen (hL : wds l = w0 :: rest) (hk : kindOf w0 = some k) (h : rest.length ≠ cn k + ct k) : parseO l = none := by
  rw [parse_unf hL hk, if_pos (by omega)]
theorem parse_badN (hL : wds l = w0 :: rest) (hk : kindOf w0 = some k) {j : Nat} {x : List UInt8} (hx : rest[j]? = some x) (hj : j < cn k) (e : numW x = none) : parseO l = none := by
  rw [parse_unf hL hk]
  have : x ∈ rest.take (cn k) := by
    refine List.mem_of_getElem? (i := j) ?_
    rw [List.getElem?_take, if_pos hj]
    exact hx
  rw [mapO_none' _ _ _ this e]
  split <;> rfl
theorem parse_badT (hL : wds l = w0 :: rest) (hk : kindOf w0 = some k) {j : Nat} {x : List UInt8} (hx : rest[j]? = some x) (hj : cn k ≤ j) (e : ∀ t, bytS x = some t → 512 < t.length) : parseO l = none := by
  rw [parse_unf hL hk]
  have hm : x ∈ rest.drop (cn k) := by
    refine List.mem_of_getElem? (i := j - cn k) ?_
    rw [List.getElem?_drop, show cn k + (j - cn k) = j by omega]
    exact hx
  split
  · rfl
  · split
    · rename_i ns ts h1 h2
      obtain ⟨t, ht1, ht2⟩ := mapO_mem _ _ _ _ h2 hm
      have := e t ht1
      rw [if_neg]
      intro hc
      have := of_decide_eq_true (List.all_eq_true.1 hc t ht2)
      omega
    · rfl
theorem parse_done (hL : wds l = w0 :: rest) (hk : kindOf w0 = some k) (hlen : rest.length = cn k + ct k) {ns : List Int} {ts : List (List UInt8)} {j : Nat} (hj : j = rest.length) (h : PI rest (cn k) j ns ts) : parseO l = some ⟨k, ns, ts⟩ := by
  subst hj
  obtain ⟨h1, h2, h3⟩ := h
  rw [List.take_length] at h1 h2
  rw [parse_unf hL hk, if_neg (by omega), h1, h2]
  simp [h3]

theorem ownsRow_of_block {W W' : World} {B : Nat} {t : TypeId} {z : Nat} {v : Value} {n : Nat} {xs : List Value} (h : W.ownsRow B t z v n xs) (hb : ∀ g, v.ownBlock = some g → B ≤ g → g < W.heap.size → W'.heap[g]? = W.heap[g]?) : W'.ownsRow B t z v n xs := by
  refine ⟨h.1, ?_⟩
  rcases h.2 with h1 | ⟨g, cap, cur, rfl, h1, h2, h3⟩
  · exact .inl h1
  · exact .inr ⟨g, cap, cur, rfl, h1, by rw [hb g rfl h1 (Array.getElem?_eq_some_iff.1 h2).1]; exact h2, h3⟩
theorem ownsRow_kept {W W' : World} {B : Nat} {t : TypeId} {z : Nat} {v : Value} {n : Nat} {xs : List Value} (h : W.ownsRow B t z v n xs) (hK : KeptIn (· < W.heap.size) W W') : W'.ownsRow B t z v n xs :=
  ownsRow_of_block h fun g _ _ h2 => hK.block g h2
/-- The other row, of another type, stands while this one grows. -/
theorem ownsRow_other {W W' : World} {B : Nat} {t t2 : TypeId} {z z2 : Nat} {v v2 : Value} {n n2 : Nat} {xs xs2 : List Value} {ob : Obj} (h : W.ownsRow B t z v n xs) (h2 : W.ownsRow B t2 z2 v2 n2 xs2) (ht : t ≠ t2) (hg : (W.alloc ob).grownBy W' v2.ownBlock) : W'.ownsRow B t z v n xs := by
  refine ⟨h.1, ?_⟩
  rcases h.2 with h1 | ⟨g, cap, cur, rfl, h1, hb, h3⟩
  · exact .inl h1
  · refine .inr ⟨g, cap, cur, rfl, h1, ?_, h3⟩
    have hlt := (Array.getElem?_eq_some_iff.1 hb).1
    rw [hg.block g (by simp; omega) ?_, Lib.alloc_old _ _ _ hlt]
    · exact hb
    · intro e
      rcases h2.2 with ⟨rfl, _⟩ | ⟨g', cap', cur', rfl, _, hb', _⟩
      · simp [Value.ownBlock] at e
      · simp [Value.ownBlock] at e
        subst e
        rw [hb] at hb'
        simp at hb'
        exact ht hb'.2
theorem ownsRow_cell {W : World} {B y : Nat} {t : TypeId} {z : Nat} {v x : Value} {n : Nat} {xs : List Value} (h : W.ownsRow B t z v n xs) (hy : y < B) (i : Nat) : (W.setCell ⟨y, i, none⟩ x).ownsRow B t z v n xs :=
  ownsRow_of_block h fun g _ h1 _ => Below.heap_setCell _ _ _ _ (fun e => by simp at e; omega)
theorem own_form {W : World} {B : Nat} {t : TypeId} {z : Nat} {v : Value} {n : Nat} {xs : List Value} (h : W.ownsRow B t z v n xs) : ∃ a c, v = .slice a n c := by
  rcases h.2 with ⟨rfl, rfl⟩ | ⟨g, cap, cur, rfl, _⟩
  · exact ⟨none, 0, rfl⟩
  · exact ⟨_, _, rfl⟩
theorem own_rdN {W : World} {B : Nat} {a : Option Addr} {c m : Nat} {ns : List Int} (h : W.ownsRow B 3 1 (.slice a m c) m (numC ns)) : RdN a ns W := by
  intro j n hn
  rcases h.2 with ⟨e, h0⟩ | ⟨g, cap, cur, e, _, hb, _, _, _, ht⟩
  · have := h.1
    have hj := (List.getElem?_eq_some_iff.1 hn).1
    simp [numC] at this
    omega
  · simp only [Value.slice.injEq] at e
    refine ⟨g, e.1, ?_⟩
    have h7 : (numC ns)[j]? = some (.int .i64 n) := by simp [numC, hn]
    rw [← ht, List.getElem?_take] at h7
    split at h7
    · unfold World.cell?
      rw [hb]
      simpa using h7
    · cases h7
theorem own_rdT {W : World} {B : Nat} {a : Option Addr} {c m : Nat} {ns : List (List UInt8)} (h : W.ownsRow B 9 1 (.slice a m c) m (txtC ns)) : RdT a ns W := by
  intro j n hn
  rcases h.2 with ⟨e, h0⟩ | ⟨g, cap, cur, e, _, hb, _, _, _, ht⟩
  · have := h.1
    have hj := (List.getElem?_eq_some_iff.1 hn).1
    simp [txtC] at this
    omega
  · simp only [Value.slice.injEq] at e
    refine ⟨g, e.1, ?_⟩
    have h7 : (txtC ns)[j]? = some (.string ⟨n.toArray⟩) := by simp [txtC, hn]
    rw [← ht, List.getElem?_take] at h7
    split at h7
    · unfold World.cell?
      rw [hb]
      simpa using h7
    · cases h7
theorem infoInt : (Tryd.prog.info? 3).map (fun i => (i.zero, i.size, i.bytes)) = some (some (.int .i64 0), 1, 8) := by kernel_rfl

end Go.Proofs.YtlldmebjgidbaaaDoor
