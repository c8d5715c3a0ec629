import Derived.Test.YtdbohcdjamhdjaaRows
import Derived.Test.YtdbohcdjamhdjaaV2
import Derived.OpenShut
import Derived.Deep.Slices
import Derived.ProofKit
/- A node that came in, opened. -/
set_option linter.unusedVariables false
namespace Go.Proofs.Ytdbohcdjamhdjaa
open Go.RowKit Go.ChangeShapes Go.WideShapes Go.Deep

theorem u64_of_wf {x : Int} (h : (Lit.int .u64 x).wf = true) : ∃ n : Nat, x = (n : Int) ∧ n < 18446744073709551616 := by
  have hb := bounds_u64 h
  obtain ⟨n, rfl⟩ := Int.eq_ofNat_of_zero_le hb.1
  exact ⟨n, rfl, by omega⟩

theorem addAdd5 (b off i j : Nat) : ((⟨b, off, none⟩ : Addr).add i).add j = ⟨b, off + i + j, none⟩ := by
  have h : ∀ o k, (⟨b, o, none⟩ : Addr).add k = ⟨b, o + k, none⟩ := fun o k => by unfold Addr.add; split <;> simp_all
  rw [h, h]

/-- Numbers that are there at each place are a list. -/
theorem choose_pairs (n : Nat) (q : Nat → Nat × Nat → Prop) (h : ∀ i, i < n → ∃ p, q i p) : ∃ ps : Pairs, ps.length = n ∧ ∀ i, i < n → q i (keyAt ps i, valAt ps i) := by
  induction n with
  | zero => exact ⟨[], rfl, fun i hi => absurd hi (Nat.not_lt_zero _)⟩
  | succ n ih =>
    obtain ⟨ps, hl, hq⟩ := ih fun i hi => h i (by omega)
    obtain ⟨p, hp⟩ := h n (by omega)
    refine ⟨ps ++ [p], by rw [List.length_append, hl]; rfl, fun i hi => ?_⟩
    rcases Nat.lt_or_ge i n with h1 | h1
    · have e : (ps ++ [p]).getD i (0, 0) = ps.getD i (0, 0) := by
        rw [List.getD_eq_getElem?_getD, List.getD_eq_getElem?_getD, List.getElem?_append_left (by omega)]
      have := hq i h1
      unfold keyAt valAt at *
      rw [e]
      exact this
    · obtain rfl : i = n := by omega
      have e : (ps ++ [p]).getD i (0, 0) = p := by
        rw [List.getD_eq_getElem?_getD, List.getElem?_append_right (by omega), hl, Nat.sub_self]
        rfl
      unfold keyAt valAt
      rw [e]
      exact hp

set_option maxRecDepth 100000 in
/-- The two cells of a node. -/
theorem leaf_parts {H : Type} {enc : TypeId × Value → H} {W : World} {c0 c1 : Value} {y0 y1 : DataW H × List MemPlace} {m : Nat}
    (h0 : DataW.trod enc Try.prog W 0 (fun _ => true) true m 3 [c0] = some y0) (h1 : DataW.trod enc Try.prog W 0 (fun _ => true) true m 25 [c1] = some y1) :
    ∃ (lv : Int) (a : Option Addr) (cap : Nat) (ps : Pairs), (c0 = .int .i64 lv ∧ c1 = .slice a ps.length cap) ∧ IsPs W a ps := by
  obtain ⟨lv, e0, _, _⟩ := DataW.trod_int Try.underlying3 h0
  simp at e0
  subst e0
  rcases open_slice Try.underlying25 h1 with ⟨e1, _⟩ | ⟨x, len, cap, mm, n, D, Pl, e1, _, hle, hcm, hmm, _, hi⟩
  · simp at e1
    subst e1
    exact ⟨lv, none, 0, [], ⟨rfl, rfl⟩, IsPs.none _ _⟩
  · simp at e1
    subst e1
    have hm' : mm = cap := by simpa using hmm
    have hC2 : Try.prog.cellsOf 82 = 2 := by kernel_rfl
    have hc37 : Try.prog.cellsOf 80 = 1 := by kernel_rfl
    rw [hC2] at hi
    have one : ∀ i, i < len → ∃ q : Nat × Nat, (q.1 < 18446744073709551616 ∧ q.2 < 18446744073709551616) ∧ W.cell? ((x.add (i * 2)).add 0) = some (.int .u64 (q.1 : Int)) ∧ W.cell? ((x.add (i * 2)).add 1) = some (.int .u64 (q.2 : Int)) := by
      intro i hil
      obtain ⟨cs, hc, ht⟩ := hi i (by omega)
      obtain ⟨_, hlen, hat⟩ := World.cells?_some hc
      obtain ⟨z0, z1, n', _, _, g0, g1⟩ := trod_struct2 Try.underlying82 ht
      match cs, hlen with
      | [k0, k1], _ =>
        change DataW.trod enc Try.prog W 0 (fun _ => true) true n' 80 (([k0, k1].drop 0).take (Try.prog.cellsOf 80)) = some z0 at g0
        change DataW.trod enc Try.prog W 0 (fun _ => true) true n' 80 (([k0, k1].drop 1).take (Try.prog.cellsOf 80)) = some z1 at g1
        rw [hc37] at g0 g1
        obtain ⟨u, u1, _, u2⟩ := DataW.trod_int Try.underlying80 g0
        obtain ⟨r, r1, _, r2⟩ := DataW.trod_int Try.underlying80 g1
        simp at u1 r1
        subst u1 r1
        obtain ⟨u, rfl, hu⟩ := u64_of_wf u2
        obtain ⟨r, rfl, hr⟩ := u64_of_wf r2
        exact ⟨(u, r), ⟨hu, hr⟩, by rw [hat 0 (by omega)]; rfl, by rw [hat 1 (by omega)]; rfl⟩
    obtain ⟨ps, hlp, hq⟩ := choose_pairs len _ one
    subst hlp
    refine ⟨lv, some x, cap, ps, ⟨rfl, rfl⟩, ⟨by omega, fun q hq' => ?_, fun hp => ?_⟩⟩
    · obtain ⟨i, hi', rfl⟩ := List.getElem_of_mem hq'
      have := (hq i hi').1
      rw [keyAt_get hi', valAt_get hi'] at this
      exact this
    · obtain ⟨b, off, spot⟩ := x
      have g0 := (hq 0 hp).2.1
      have hs : spot = none := by simpa [Addr.add] using World.cell?_spot g0
      subst hs
      refine ⟨b, off, rfl, ?_, fun i hi' => ?_⟩
      · rw [addAdd5] at g0
        rcases Nat.lt_or_ge b W.heap.size with h' | h'
        · exact h'
        · simp [World.cell?, Array.getElem?_eq_none h'] at g0
      · obtain ⟨_, g1, g2⟩ := hq i hi'
        rw [addAdd5] at g1 g2
        exact ⟨g1, g2⟩

set_option maxRecDepth 100000 in
theorem leaf_open {H : Type} {enc : TypeId × Value → H} {W : World} {v : Value} {d : DataW H} {p : List MemPlace} (hv : ∃ cs, v = .agg cs ∧ cs.size = Try.prog.cellsOf 27)
    (h : DataW.Trod enc Try.prog W 0 (fun _ => true) true 27 v d p) : ∃ lv a cap ps, v = leafV lv a ps.length cap ∧ IsPs W a ps := by
  obtain ⟨cs, rfl, _⟩ := hv
  obtain ⟨fuel, hf⟩ := h
  obtain ⟨y0, y1, m, _, hl, h0, h1⟩ := trod_struct2 Try.underlying27 hf
  have hC : Try.prog.cellsOf 27 = 2 := by kernel_rfl
  have hc3 : Try.prog.cellsOf 3 = 1 := by kernel_rfl
  have hc22 : Try.prog.cellsOf 25 = 1 := by kernel_rfl
  rw [hC] at hl
  obtain ⟨l⟩ := cs
  change l.length = 2 at hl
  match l, hl with
  | [c0, c1], _ =>
    change DataW.trod enc Try.prog W 0 (fun _ => true) true m 3 (([c0, c1].drop 0).take (Try.prog.cellsOf 3)) = some y0 at h0
    change DataW.trod enc Try.prog W 0 (fun _ => true) true m 25 (([c0, c1].drop 1).take (Try.prog.cellsOf 25)) = some y1 at h1
    rw [hc3] at h0
    rw [hc22] at h1
    obtain ⟨lv, a, cap, ps, he, hp⟩ := leaf_parts h0 h1
    obtain ⟨rfl, rfl⟩ := he
    exact ⟨lv, a, cap, ps, rfl, hp⟩

end Go.Proofs.Ytdbohcdjamhdjaa
