import Derived.Test.YtdbohcdjamhdjaaLeafsW
import Derived.Test.YtdbohcdjamhdjaaNd9W
/- A slice of nodes that came in, opened: whatever nodes. -/
set_option linter.unusedVariables false
namespace Go.Proofs.Ytdbohcdjamhdjaa
open Go.RowKit Go.ChangeShapes Go.WideShapes Go.Deep

set_option maxRecDepth 100000 in
/-- A node's cells. -/
theorem leaf_cells {H : Type} {enc : TypeId × Value → H} {W : World} {cs : List Value} {d : DataW H} {p : List MemPlace} {n : Nat} (hl : cs.length = 2)
    (h : DataW.trod enc Try.prog W 0 (fun _ => true) true n 27 cs = some (d, p)) : ∃ (lv : Int) (a : Option Addr) (cap : Nat) (ps : Pairs), cs = [.int .i64 lv, .slice a ps.length cap] ∧ IsPs W a ps := by
  obtain ⟨xs, n', _, _, _, hxl, hfl⟩ := DataW.trod_struct Try.underlying27 h
  match cs, hl with
  | [c0, c1], _ =>
    have f0 : DataW.trod enc Try.prog W 0 (fun _ => true) true n' 3 (([c0, c1].drop 0).take (Try.prog.cellsOf 3)) = xs[0]? := hfl 0 _ rfl
    have f1 : DataW.trod enc Try.prog W 0 (fun _ => true) true n' 25 (([c0, c1].drop 1).take (Try.prog.cellsOf 25)) = xs[1]? := hfl 1 _ rfl
    have hx2 : xs.length = 2 := hxl
    have e2 : Try.prog.cellsOf 27 = 2 := by kernel_rfl
    have g0 : DataW.trod enc Try.prog W 0 (fun _ => true) true n' 3 [c0] = some xs[0] := by
      have e1 : Try.prog.cellsOf 3 = 1 := by kernel_rfl
      rw [e1] at f0
      exact f0.trans (List.getElem?_eq_getElem (by omega))
    have g1 : DataW.trod enc Try.prog W 0 (fun _ => true) true n' 25 [c1] = some xs[1] := by
      have e1 : Try.prog.cellsOf 25 = 1 := by kernel_rfl
      rw [e1] at f1
      exact f1.trans (List.getElem?_eq_getElem (by omega))
    obtain ⟨lv, a, cap, ps, he, hp⟩ := leaf_parts g0 g1
    exact ⟨lv, a, cap, ps, by rw [he.1, he.2], hp⟩

/-- Things that are there at each place are a list. -/
theorem choose_list {α : Type} (n : Nat) (q : Nat → α → Prop) (h : ∀ i, i < n → ∃ p, q i p) : ∃ l : List α, l.length = n ∧ ∀ i (hi : i < l.length), q i l[i] := by
  induction n with
  | zero => exact ⟨[], rfl, fun i hi => absurd hi (Nat.not_lt_zero _)⟩
  | succ n ih =>
    obtain ⟨l, hl, hq⟩ := ih fun i hi => h i (by omega)
    obtain ⟨p, hp⟩ := h n (by omega)
    refine ⟨l ++ [p], by rw [List.length_append, hl]; rfl, fun i hi => ?_⟩
    rcases Nat.lt_or_ge i n with h1 | h1
    · rw [List.getElem_append_left (by omega)]
      exact hq i (by omega)
    · rw [List.length_append, hl] at hi
      obtain rfl : i = n := by simp at hi; omega
      rw [List.getElem_append_right (by omega)]
      simp only [hl, Nat.sub_self, List.getElem_singleton]
      exact hp

set_option maxRecDepth 100000 in
theorem nodes_open {H : Type} {enc : TypeId × Value → H} {W : World} {a : Option Addr} {len cap : Nat} {d : DataW H} {p : List MemPlace}
    (h : DataW.Trod enc Try.prog W 0 (fun _ => true) true 22 (.slice a len cap) d p) : IsNodes9 W a len := by
  obtain ⟨fuel, hf⟩ := h
  rcases open_slice Try.underlying22 hf with ⟨hcs, _⟩ | ⟨x, l, c, m, n, D, Pl, hcs, _, hl, hm, hmm, _, hi⟩
  · simp [Value.cells] at hcs
    exact ⟨[], by rw [hcs.2.1]; rfl, Nat.zero_le _, fun h => absurd h (by simp)⟩
  · simp [Value.cells] at hcs
    obtain ⟨rfl, rfl, rfl⟩ := hcs
    have hm' : m = cap := by simpa using hmm
    have hC : Try.prog.cellsOf 27 = 2 := by kernel_rfl
    rw [hC] at hi
    have one : ∀ i, i < len → ∃ nd : NdA, ∃ a' cp, W.cell? ((x.add (i * 2)).add 0) = some (.int .i64 nd.1) ∧ W.cell? ((x.add (i * 2)).add 1) = some (.slice a' nd.2.length cp) ∧ IsPs W a' nd.2 := by
      intro i hil
      obtain ⟨cs, hc, ht⟩ := hi i (by omega)
      obtain ⟨_, hlen, hat⟩ := World.cells?_some hc
      obtain ⟨lv, a', cp, ps, rfl, hp⟩ := leaf_cells hlen ht
      exact ⟨(lv, ps), a', cp, by rw [hat 0 (by omega)]; rfl, by rw [hat 1 (by omega)]; rfl, hp⟩
    obtain ⟨NA, hN, hq⟩ := choose_list len _ one
    refine ⟨NA, hN, by omega, fun h0 => ?_⟩
    obtain ⟨b, off, spot⟩ := x
    obtain ⟨a', cp, g0, _, _⟩ := hq 0 h0
    have hs : spot = none := by simpa [Addr.add] using World.cell?_spot g0
    subst hs
    refine ⟨b, off, rfl, ?_, fun i hi' => ?_⟩
    · rw [addAdd5] at g0
      rcases Nat.lt_or_ge b W.heap.size with h' | h'
      · exact h'
      · simp [World.cell?, Array.getElem?_eq_none h'] at g0
    · obtain ⟨a', cp, g0, g1, g2⟩ := hq i hi'
      rw [addAdd5] at g0 g1
      exact ⟨a', cp, g0, g1, g2⟩

end Go.Proofs.Ytdbohcdjamhdjaa
