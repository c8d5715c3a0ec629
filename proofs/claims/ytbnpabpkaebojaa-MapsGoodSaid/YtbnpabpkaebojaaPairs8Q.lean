import Derived.Test.YtbnpabpkaebojaaRows
import Derived.Test.YtbnpabpkaebojaaBm8Q
import Derived.Deep.Slices
import Derived.ProofKit
/- A slice of pairs that came in, opened. -/
set_option linter.unusedVariables false
namespace Go.Proofs.Ytbnpabpkaebojaa
open Go.RowKit Go.ChangeShapes Go.WideShapes Go.Deep

theorem u64_of_wf8 {x : Int} (h : (Lit.int .u64 x).wf = true) : ∃ n : Nat, x = (n : Int) ∧ n < 18446744073709551616 := by
  have hb := bounds_u64 h
  obtain ⟨n, rfl⟩ := Int.eq_ofNat_of_zero_le hb.1
  exact ⟨n, rfl, by omega⟩
theorem addAdd8 (b off i j : Nat) : ((⟨b, off, none⟩ : Addr).add i).add j = ⟨b, off + i + j, none⟩ := by
  have h : ∀ o k, (⟨b, o, none⟩ : Addr).add k = ⟨b, o + k, none⟩ := fun o k => by unfold Addr.add; split <;> simp_all
  rw [h, h]
theorem choose_pairs8 (n : Nat) (q : Nat → Nat × Nat → Prop) (h : ∀ i, i < n → ∃ p, q i p) : ∃ ps : Pairs, ps.length = n ∧ ∀ i, i < n → q i (keyAt ps i, valAt ps i) := by
  induction n with
  | zero => exact ⟨[], rfl, fun i hi => absurd hi (Nat.not_lt_zero _)⟩
  | succ n ih =>
    obtain ⟨ps, hl, hq⟩ := ih fun i hi => h i (by omega)
    obtain ⟨p, hp⟩ := h n (by omega)
    refine ⟨ps ++ [p], by rw [List.length_append, hl]; rfl, fun i hi => ?_⟩
    rcases Nat.lt_or_ge i n with h1 | h1
    · have e : (ps ++ [p]).getD i (0, 0) = ps.getD i (0, 0) := by
        rw [List.getD_eq_getElem?_getD, List.getD_eq_getElem?_getD, List.getElem?_append_left (by omega)]
      have := hq i h1
      unfold keyAt valAt at *
      rw [e]
      exact this
    · obtain rfl : i = n := by omega
      have e : (ps ++ [p]).getD i (0, 0) = p := by
        rw [List.getD_eq_getElem?_getD, List.getElem?_append_right (by omega), hl, Nat.sub_self]
        rfl
      unfold keyAt valAt
      rw [e]
      exact hp

set_option maxRecDepth 100000 in
theorem pairs_open {H : Type} {enc : TypeId × Value → H} {W : World} {a : Option Addr} {len cap : Nat} {d : DataW H} {p : List MemPlace}
    (h : DataW.Trod enc Try.prog W 0 (fun _ => true) true 25 (.slice a len cap) d p) : IsPairs8 W a len cap := by
  obtain ⟨fuel, h1⟩ := h
  rcases open_slice Try.underlying25 h1 with ⟨e1, _⟩ | ⟨x, len2, cap2, mm, n, D, Pl, e1, _, hle, hcm, hmm, _, hi⟩
  · simp [Value.cells] at e1
    obtain ⟨rfl, rfl, rfl⟩ := e1
    exact ⟨[], rfl, IsPs.none _ _, Nat.le_refl _, Nat.zero_le _⟩
  · simp [Value.cells] at e1
    obtain ⟨rfl, rfl, rfl⟩ := e1
    have hm' : mm = cap := by simpa using hmm
    have hC2 : Try.prog.cellsOf 77 = 2 := by kernel_rfl
    have hc37 : Try.prog.cellsOf 48 = 1 := by kernel_rfl
    rw [hC2] at hi
    have one : ∀ i, i < len → ∃ q : Nat × Nat, (q.1 < 18446744073709551616 ∧ q.2 < 18446744073709551616) ∧ W.cell? ((x.add (i * 2)).add 0) = some (.int .u64 (q.1 : Int)) ∧ W.cell? ((x.add (i * 2)).add 1) = some (.int .u64 (q.2 : Int)) := by
      intro i hil
      obtain ⟨cs, hc, ht⟩ := hi i (by omega)
      obtain ⟨_, hlen, hat⟩ := World.cells?_some hc
      obtain ⟨z0, z1, n', _, _, g0, g1⟩ := trod_struct2 Try.underlying77 ht
      match cs, hlen with
      | [k0, k1], _ =>
        change DataW.trod enc Try.prog W 0 (fun _ => true) true n' 48 (([k0, k1].drop 0).take (Try.prog.cellsOf 48)) = some z0 at g0
        change DataW.trod enc Try.prog W 0 (fun _ => true) true n' 48 (([k0, k1].drop 1).take (Try.prog.cellsOf 48)) = some z1 at g1
        rw [hc37] at g0 g1
        obtain ⟨u, u1, _, u2⟩ := DataW.trod_int Try.underlying48 g0
        obtain ⟨r, r1, _, r2⟩ := DataW.trod_int Try.underlying48 g1
        simp at u1 r1
        subst u1 r1
        obtain ⟨u, rfl, hu⟩ := u64_of_wf8 u2
        obtain ⟨r, rfl, hr⟩ := u64_of_wf8 r2
        exact ⟨(u, r), ⟨hu, hr⟩, by rw [hat 0 (by omega)]; rfl, by rw [hat 1 (by omega)]; rfl⟩
    obtain ⟨ps, hlp, hq⟩ := choose_pairs8 len _ one
    subst hlp
    refine ⟨ps, rfl, ⟨by omega, fun q hq' => ?_, fun hp => ?_⟩, by omega, by omega⟩
    · obtain ⟨i, hi', rfl⟩ := List.getElem_of_mem hq'
      have := (hq i hi').1
      rw [keyAt_get hi', valAt_get hi'] at this
      exact this
    · obtain ⟨b, off, spot⟩ := x
      have g0 := (hq 0 hp).2.1
      have hs : spot = none := by simpa [Addr.add] using World.cell?_spot g0
      subst hs
      refine ⟨b, off, rfl, ?_, fun i hi' => ?_⟩
      · rw [addAdd8] at g0
        rcases Nat.lt_or_ge b W.heap.size with h' | h'
        · exact h'
        · simp [World.cell?, Array.getElem?_eq_none h'] at g0
      · obtain ⟨_, g1, g2⟩ := hq i hi'
        rw [addAdd8] at g1 g2
        exact ⟨g1, g2⟩

end Go.Proofs.Ytbnpabpkaebojaa
