import Derived.Test.YtkgjmejgkffbdaaGreatDoorRows
import Derived.Test.YtkgjmejgkffbdaaGreatDoorExW7K
import Derived.Deep.Slices
import Derived.ProofKit
/- A slice of layer 7's deeds that came in, opened to its elements' cells and lists. -/
set_option linter.unusedVariables false
namespace Go.Proofs.YtkgjmejgkffbdaaGreatDoor
open Go.RowKit Go.ChangeShapes Go.WideShapes Go.Deep

theorem addAdd7 (b off i j : Nat) : ((⟨b, off, none⟩ : Addr).add i).add j = ⟨b, off + i + j, none⟩ := by
  have h : ∀ o k, (⟨b, o, none⟩ : Addr).add k = ⟨b, o + k, none⟩ := fun o k => by unfold Addr.add; split <;> simp_all
  rw [h, h]
theorem i64_of_wf7 {x : Int} (h : (Lit.int .i64 x).wf = true) : I64 x := by
  simp [Lit.wf, IntKind.min, IntKind.max, IntKind.signed, IntKind.bits] at h
  omega
theorem choose_ints (n : Nat) (q : Nat → Int → Prop) (h : ∀ i, i < n → ∃ p, q i p) : ∃ l : List Int, l.length = n ∧ ∀ i, i < n → q i (l.getD i 0) := by
  induction n with
  | zero => exact ⟨[], rfl, fun i hi => absurd hi (Nat.not_lt_zero _)⟩
  | succ n ih =>
    obtain ⟨l, hl, hq⟩ := ih fun i hi => h i (by omega)
    obtain ⟨p, hp⟩ := h n (by omega)
    refine ⟨l ++ [p], by rw [List.length_append, hl]; rfl, fun i hi => ?_⟩
    rcases Nat.lt_or_ge i n with h1 | h1
    · rw [List.getD_eq_getElem?_getD, List.getElem?_append_left (by omega), ← List.getD_eq_getElem?_getD]
      exact hq i h1
    · obtain rfl : i = n := by omega
      rw [List.getD_eq_getElem?_getD, List.getElem?_append_right (by omega), hl, Nat.sub_self]
      exact hp

set_option maxRecDepth 100000 in
theorem ints7_open {H : Type} {enc : TypeId × Value → H} {W : World} {v : Value} {f : Nat} {d : DataW H × _} (h : DataW.trod enc Tryz.prog W 0 (fun _ => true) true f 40 [v] = some d) :
    ∃ (lb : Option Addr) (l : List Int) (cap : Nat), v = .slice lb l.length cap ∧ IsInts7 W lb l := by
  rcases open_slice Tryz.underlying40 h with ⟨e1, _⟩ | ⟨x, len, cap, mm, n, D, Pl, e1, _, hle, hcm, hmm, _, hi⟩
  · simp at e1
    subst e1
    exact ⟨none, [], 0, rfl, Nat.zero_le _, (fun x hx => by cases hx), fun h => absurd h (Nat.lt_irrefl 0)⟩
  · simp at e1
    subst e1
    have hm' : mm = cap := by simpa using hmm
    have hC : Tryz.prog.cellsOf 3 = 1 := by kernel_rfl
    rw [hC] at hi
    have one : ∀ i, i < len → ∃ q : Int, I64 q ∧ W.cell? ((x.add (i * 1)).add 0) = some (.int .i64 q) := by
      intro i hil
      obtain ⟨cs, hc, ht⟩ := hi i (by omega)
      obtain ⟨_, hlen, hat⟩ := World.cells?_some hc
      match cs, hlen with
      | [k0], _ =>
        obtain ⟨u, u1, _, u2⟩ := DataW.trod_int Tryz.underlying3 ht
        simp at u1
        subst u1
        exact ⟨u, i64_of_wf7 u2, by rw [hat 0 (by omega)]; rfl⟩
    obtain ⟨l, hl, hq⟩ := choose_ints len _ one
    subst hl
    refine ⟨some x, l, cap, rfl, by omega, fun z hz => ?_, fun hp => ?_⟩
    · obtain ⟨i, hi', rfl⟩ := List.getElem_of_mem hz
      have := (hq i hi').1
      rwa [List.getD_eq_getElem?_getD, List.getElem?_eq_getElem hi'] at this
    · obtain ⟨b, off, spot⟩ := x
      have g0 := (hq 0 hp).2
      have hs : spot = none := by simpa [Addr.add] using World.cell?_spot g0
      subst hs
      refine ⟨b, off, rfl, ?_, fun i hi' => ?_⟩
      · rw [addAdd7] at g0
        rcases Nat.lt_or_ge b W.heap.size with h' | h'
        · exact h'
        · simp [World.cell?, Array.getElem?_eq_none h'] at g0
      · have g1 := (hq i hi').2
        rw [addAdd7, Nat.mul_one, Nat.add_zero] at g1
        exact g1

set_option maxRecDepth 100000 in
theorem acts7_open {H : Type} {enc : TypeId × Value → H} {W : World} {a : Option Addr} {len cap : Nat} {d : DataW H} {p : List MemPlace}
    (h : DataW.Trod enc Tryz.prog W 0 (fun _ => true) true 22 (.slice a len cap) d p) : IsActs7 W a len := by
  obtain ⟨fuel, hf⟩ := h
  rcases open_slice Tryz.underlying22 hf with ⟨hcs, _⟩ | ⟨x, l, c, m, n, D, Pl, hcs, _, hl, hm, hmm, _, hi⟩
  · simp [Value.cells] at hcs
    exact .inl hcs.2.1
  · simp [Value.cells] at hcs
    obtain ⟨rfl, rfl, rfl⟩ := hcs
    by_cases h0 : len = 0
    · exact .inl h0
    have hm' : m = cap := by simpa using hmm
    have hC : Tryz.prog.cellsOf 42 = 4 := by kernel_rfl
    rw [hC] at hi
    -- each element
    have one : ∀ i, i < len → ∃ (k q r : Int) (lb : Option Addr) (cp : Nat) (t : List Int), I64 k ∧ I64 q ∧ I64 r ∧ IsInts7 W lb t ∧
        W.cell? ((x.add (i * 4)).add 0) = some (.int .i64 k) ∧ W.cell? ((x.add (i * 4)).add 1) = some (.int .i64 q) ∧ W.cell? ((x.add (i * 4)).add 2) = some (.int .i64 r) ∧ W.cell? ((x.add (i * 4)).add 3) = some (.slice lb t.length cp) := by
      intro i hil
      obtain ⟨cs, hc, ht⟩ := hi i (by omega)
      obtain ⟨_, hlen, hat⟩ := World.cells?_some hc
      obtain ⟨xs, n', _, _, _, hxl, hfl⟩ := DataW.trod_struct Tryz.underlying42 ht
      match cs, hlen with
      | [c0, c1, c2, c3], _ =>
        have e3 : Tryz.prog.cellsOf 3 = 1 := by kernel_rfl
        have e5 : Tryz.prog.cellsOf 40 = 1 := by kernel_rfl
        have f0 : DataW.trod enc Tryz.prog W 0 (fun _ => true) true n' 3 (([c0, c1, c2, c3].drop 0).take (Tryz.prog.cellsOf 3)) = xs[0]? := hfl 0 _ rfl
        have f1 : DataW.trod enc Tryz.prog W 0 (fun _ => true) true n' 3 (([c0, c1, c2, c3].drop 1).take (Tryz.prog.cellsOf 3)) = xs[1]? := hfl 1 _ rfl
        have f2 : DataW.trod enc Tryz.prog W 0 (fun _ => true) true n' 3 (([c0, c1, c2, c3].drop 2).take (Tryz.prog.cellsOf 3)) = xs[2]? := hfl 2 _ rfl
        have f3 : DataW.trod enc Tryz.prog W 0 (fun _ => true) true n' 40 (([c0, c1, c2, c3].drop 3).take (Tryz.prog.cellsOf 40)) = xs[3]? := hfl 3 _ rfl
        rw [e3] at f0 f1 f2
        rw [e5] at f3
        have hx5 : xs.length = 4 := hxl
        obtain ⟨k, k1, _, k2⟩ := DataW.trod_int Tryz.underlying3 (f0.trans (List.getElem?_eq_getElem (by omega)))
        obtain ⟨q, q1, _, q2⟩ := DataW.trod_int Tryz.underlying3 (f1.trans (List.getElem?_eq_getElem (by omega)))
        obtain ⟨r, r1, _, r2⟩ := DataW.trod_int Tryz.underlying3 (f2.trans (List.getElem?_eq_getElem (by omega)))
        obtain ⟨lb, t, cp, t1, t2⟩ := ints7_open (f3.trans (List.getElem?_eq_getElem (by omega)))
        simp at k1 q1 r1
        subst k1 q1 r1 t1
        exact ⟨k, q, r, lb, cp, t, i64_of_wf7 k2, i64_of_wf7 q2, i64_of_wf7 r2, t2, by rw [hat 0 (by omega)]; rfl, by rw [hat 1 (by omega)]; rfl, by rw [hat 2 (by omega)]; rfl, by rw [hat 3 (by omega)]; rfl⟩
    obtain ⟨b, off, spot⟩ := x
    obtain ⟨k, q, r, lb, cp, t, _, _, _, _, g0, _⟩ := one 0 (by omega)
    have hs : spot = none := by simpa [Addr.add] using World.cell?_spot g0
    subst hs
    refine .inr ⟨b, off, rfl, ?_, by omega, fun i hil => ?_⟩
    · rw [addAdd7] at g0
      rcases Nat.lt_or_ge b W.heap.size with h' | h'
      · exact h'
      · simp [World.cell?, Array.getElem?_eq_none h'] at g0
    · obtain ⟨k, q, r, lb, cp, t, h1, h2, h3, h4, g0, g1, g2, g3⟩ := one i hil
      rw [addAdd7] at g0 g1 g2 g3
      exact ⟨k, q, r, lb, cp, t, h1, h2, h3, h4, g0, g1, g2, g3⟩

end Go.Proofs.YtkgjmejgkffbdaaGreatDoor
