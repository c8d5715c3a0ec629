import Derived.Test.YtdbanlifneomgaaRows
import Derived.Test.YtdbanlifneomgaaPk14L
import Derived.Test.YtdbanlifneomgaaPcoL
import Derived.Deep.Slices
import Derived.ProofKit
/- A place that came in, a slice of places that came in, opened. -/
set_option linter.unusedVariables false
namespace Go.Proofs.Ytdbanlifneomgaa
open Go.RowKit Go.ChangeShapes Go.WideShapes Go.Deep

set_option maxRecDepth 100000 in
/-- A place's cells. -/
theorem pla_cells {H : Type} {enc : TypeId × Value → H} {W : World} {cs : List Value} {d : DataW H} {p : List MemPlace} {n : Nat} (hl : cs.length = 3)
    (h : DataW.trod enc Try.prog W 0 (fun _ => true) true n 47 cs = some (d, p)) : ∃ (x : Pla), cs = [.int .i64 x.ch, .int .i64 x.tier, .int .i64 x.slot] ∧ (Lit.int .i64 x.ch).wf = true := by
  obtain ⟨xs, n', _, _, _, hxl, hfl⟩ := DataW.trod_struct Try.underlying47 h
  match cs, hl with
  | [c0, c1, c2], _ =>
    have e3 : Try.prog.cellsOf 3 = 1 := by kernel_rfl
    have e4 : Try.prog.cellsOf 45 = 2 := by kernel_rfl
    have f0 : DataW.trod enc Try.prog W 0 (fun _ => true) true n' 3 (([c0, c1, c2].drop 0).take (Try.prog.cellsOf 3)) = xs[0]? := hfl 0 _ rfl
    have f1 : DataW.trod enc Try.prog W 0 (fun _ => true) true n' 45 (([c0, c1, c2].drop 1).take (Try.prog.cellsOf 45)) = xs[1]? := hfl 1 _ rfl
    rw [e3] at f0
    rw [e4] at f1
    have hx5 : xs.length = 2 := hxl
    obtain ⟨ch, g0, _, wc⟩ := DataW.trod_int Try.underlying3 (f0.trans (List.getElem?_eq_getElem (by omega)))
    have h1 : DataW.trod enc Try.prog W 0 (fun _ => true) true n' 45 [c1, c2] = some xs[1] := f1.trans (List.getElem?_eq_getElem (by omega))
    obtain ⟨ys, m', _, _, _, hyl, hyf⟩ := DataW.trod_struct Try.underlying45 h1
    have k0 : DataW.trod enc Try.prog W 0 (fun _ => true) true m' 3 (([c1, c2].drop 0).take (Try.prog.cellsOf 3)) = ys[0]? := hyf 0 _ rfl
    have k1 : DataW.trod enc Try.prog W 0 (fun _ => true) true m' 3 (([c1, c2].drop 1).take (Try.prog.cellsOf 3)) = ys[1]? := hyf 1 _ rfl
    rw [e3] at k0 k1
    have hy5 : ys.length = 2 := hyl
    obtain ⟨t, g1, _, _⟩ := DataW.trod_int Try.underlying3 (k0.trans (List.getElem?_eq_getElem (by omega)))
    obtain ⟨s, g2, _, _⟩ := DataW.trod_int Try.underlying3 (k1.trans (List.getElem?_eq_getElem (by omega)))
    simp at g0 g1 g2
    subst g0 g1 g2
    exact ⟨⟨ch, t, s⟩, rfl, wc⟩

theorem pl_open {H : Type} {enc : TypeId × Value → H} {W : World} {v : Value} {d : DataW H} {p : List MemPlace} (hv : ∃ cs, v = .agg cs ∧ cs.size = Try.prog.cellsOf 47)
    (h : DataW.Trod enc Try.prog W 0 (fun _ => true) true 47 v d p) : ∃ (ch tier slot : Int), v = plaV ⟨ch, tier, slot⟩ ∧ True := by
  obtain ⟨cs, rfl, hs⟩ := hv
  obtain ⟨fuel, hf⟩ := h
  have hC : Try.prog.cellsOf 47 = 3 := by kernel_rfl
  rw [hC] at hs
  obtain ⟨l⟩ := cs
  obtain ⟨x, e, _⟩ := pla_cells (cs := l) hs hf
  exact ⟨x.ch, x.tier, x.slot, by rw [e]; rfl, trivial⟩

theorem addAdd14 (b off i j : Nat) : ((⟨b, off, none⟩ : Addr).add i).add j = ⟨b, off + i + j, none⟩ := by
  have h : ∀ o k, (⟨b, o, none⟩ : Addr).add k = ⟨b, o + k, none⟩ := fun o k => by unfold Addr.add; split <;> simp_all
  rw [h, h]
theorem choose14 (n : Nat) (q : Nat → Pla → Prop) (h : ∀ i, i < n → ∃ p, q i p) : ∃ es : List Pla, es.length = n ∧ ∀ i (hi : i < es.length), q i es[i] := by
  induction n with
  | zero => exact ⟨[], rfl, fun i hi => absurd hi (Nat.not_lt_zero _)⟩
  | succ n ih =>
    obtain ⟨es, hl, hq⟩ := ih fun i hi => h i (by omega)
    obtain ⟨p, hp⟩ := h n (by omega)
    refine ⟨es ++ [p], by rw [List.length_append, hl]; rfl, fun i hi => ?_⟩
    rcases Nat.lt_or_ge i es.length with h1 | h1
    · rw [List.getElem_append_left h1]
      exact hq i h1
    · have e : i = n := by rw [List.length_append, List.length_singleton] at hi; omega
      subst e
      rw [List.getElem_append_right h1]
      simpa using hp

set_option maxRecDepth 100000 in
theorem pls_open {H : Type} {enc : TypeId × Value → H} {W : World} {a : Option Addr} {len cap : Nat} {d : DataW H} {p : List MemPlace}
    (h : DataW.Trod enc Try.prog W 0 (fun _ => true) true 51 (.slice a len cap) d p) : IsPls W a len := by
  obtain ⟨fuel, hf⟩ := h
  rcases open_slice Try.underlying51 hf with ⟨hcs, _⟩ | ⟨x, l, c, m, n, D, Pl, hcs, _, hl, hm, hmm, _, hi⟩
  · simp [Value.cells] at hcs
    obtain ⟨rfl, rfl, rfl⟩ := hcs
    exact ⟨[], rfl, Nat.zero_le _, fun hp => absurd hp (Nat.not_lt_zero _)⟩
  · simp [Value.cells] at hcs
    obtain ⟨rfl, rfl, rfl⟩ := hcs
    have hm' : m = cap := by simpa using hmm
    have hC : Try.prog.cellsOf 47 = 3 := by kernel_rfl
    rw [hC] at hi
    have one : ∀ i, i < len → ∃ q : Pla, W.cell? ((x.add (i * 3)).add 0) = some (.int .i64 q.ch) ∧ W.cell? ((x.add (i * 3)).add 1) = some (.int .i64 q.tier) ∧ W.cell? ((x.add (i * 3)).add 2) = some (.int .i64 q.slot) := by
      intro i hil
      obtain ⟨cs, hc, ht⟩ := hi i (by omega)
      obtain ⟨_, hlen, hat⟩ := World.cells?_some hc
      obtain ⟨q, e, _⟩ := pla_cells (cs := cs) hlen ht
      refine ⟨q, ?_, ?_, ?_⟩
      · rw [hat 0 (by decide)]; simp [e]
      · rw [hat 1 (by decide)]; simp [e]
      · rw [hat 2 (by decide)]; simp [e]
    obtain ⟨es, hel, hes⟩ := choose14 len (fun i q => W.cell? ((x.add (i * 3)).add 0) = some (.int .i64 q.ch) ∧ W.cell? ((x.add (i * 3)).add 1) = some (.int .i64 q.tier) ∧ W.cell? ((x.add (i * 3)).add 2) = some (.int .i64 q.slot)) one
    refine ⟨es, hel, by rw [hel]; omega, fun hp => ?_⟩
    obtain ⟨b, off, spot⟩ := x
    have hc0 := (hes 0 hp).1
    have hs : spot = none := by simpa [Addr.add] using World.cell?_spot hc0
    subst hs
    refine ⟨b, off, rfl, ?_, fun i hil => ?_⟩
    · rw [addAdd14] at hc0
      rcases Nat.lt_or_ge b W.heap.size with h' | h'
      · exact h'
      · simp [World.cell?, Array.getElem?_eq_none h'] at hc0
    · have := hes i hil
      simp only [addAdd14] at this
      exact this

end Go.Proofs.Ytdbanlifneomgaa
