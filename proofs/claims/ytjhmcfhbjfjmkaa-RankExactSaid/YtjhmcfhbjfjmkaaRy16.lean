/- The document's items (tierceref16): of; two rows that grow side by side. -/
import Derived.Test.YtjhmcfhbjfjmkaaRx16
set_option linter.unusedVariables false
namespace Go.Proofs.Ytjhmcfhbjfjmkaa
open Go.RowKit

set_option maxHeartbeats 2000000 in
set_option maxRecDepth 100000 in
theorem r16of (a : Option Addr) (cap : Nat) (l : List It16) (y : It16) (w : World) (h : IsI w a l) (hl : l.length ≤ 1000) (hR : RisI l) (hy : y ∈ l) :
    Calls Try.prog 19 #[.slice a l.length cap, .int .i64 y.ch] w (ItS w y) := by
  obtain ⟨n, hn⟩ : ∃ n, l.length = n := ⟨_, rfl⟩
  have hnI : (n : Int) ≤ 1000 := by omega
  have hko := keptNew w (.cells #[.int .i64 0, .int .i64 0, .int .i64 0, .bool false, .bool false] 38)
  have H := Lib.hid (h.old hko)
  have HN := Lib.hid hn
  have HY := Lib.hid (And.intro hy hR)
  rw [hn]
  have hb0 := BoxI.new w it0 38
  obtain ⟨W0, hW0⟩ : ∃ W0, w.alloc (.cells #[.int .i64 0, .int .i64 0, .int .i64 0, .bool false, .bool false] 38) = W0 := ⟨_, rfl⟩
  have hW0' : w.alloc (.cells #[.int .i64 it0.ch, .int .i64 it0.he, .int .i64 it0.ti, .bool it0.pn, .bool it0.bu] 38) = W0 := hW0
  obtain ⟨B, hB⟩ : ∃ B, w.heap.size = B := ⟨_, rfl⟩
  rw [hW0'] at hb0
  rw [hB] at hb0
  rw [hW0] at H hko
  have HW := Lib.hid hW0
  have HB := Lib.hid hB
  have HX := Lib.hid (And.intro hb0 hko)
  clear h hn hl hB hW0 hW0' hb0 hko hy hR
  go_enter Try.func19, Try.ntmps19
  go_wp2_with fail
  rw [HW.out]
  simp only [HB.out]
  go_loopw [5] (fun i wr => ∃ (j : Nat), wr = W0 ∧ j ≤ n ∧ i = .int .i64 (j : Int) ∧ Hid (∀ i (h : i < l.length), i < j → l[i].ch ≠ y.ch)) (fun i _ => n - (intOf i).toNat)
  case atStart => exact ⟨0, rfl, Nat.zero_le _, rfl, Lib.hid fun i _ h => absurd h (Nat.not_lt_zero i)⟩
  case round =>
    obtain ⟨j, rfl, hj, rfl, HJ⟩ := hrel
    by_cases hlt : j < n
    · have d0 : (0 : Int) ≤ (j : Int) := by omega
      have d1 : (j : Int) < (n : Int) := by omega
      have hjl : j < l.length := by rw [HN.out]; exact hlt
      obtain ⟨b, off, rfl, hb, hc⟩ := H.out.cells (by omega)
      have hcj := hc j hjl
      have hin : l[j].ch = y.ch → l[j] = y := fun e => by
        obtain ⟨i2, h2, e2⟩ := List.getElem_of_mem HY.out.1
        rw [← e2] at e
        have := HY.out.2.inj hjl h2 e
        subst this
        exact e2
      have hN2 : l[j].ch ≠ y.ch → ∀ i (h : i < l.length), i < j + 1 → l[i].ch ≠ y.ch := fun e i h hi => by
        by_cases h2 : i = j
        · subst h2; exact e
        · exact HJ.out i h (by omega)
      obtain ⟨x, hx⟩ : ∃ x, l[j] = x := ⟨_, rfl⟩
      rw [hx] at hcj hin hN2
      obtain ⟨c1, c2, c3, c4, c5⟩ := hcj
      by_cases hch : x.ch = y.ch
      · obtain rfl : x = y := hin hch
        have z0 : (x.ch == x.ch) = true := beq_self_eq_true _
        have b0 := HX.out.1
        have f0 := b0.free 0
        have f1 := b0.free 1
        have f2 := b0.free 2
        have f3 := b0.free 3
        have f4 := b0.free 4
        obtain ⟨m1, m2, m3, m4, m5⟩ := b0.at
        simp only [Nat.zero_add] at m2 m3 m4 m5
        have HE := Lib.hid (And.intro (b0.store x) (HX.out.2.st16 (y := B) (by rw [HB.out]; exact Nat.lt_irrefl _) x))
        unfold st16 at HE
        clear hc hb hjl hx hin hN2 hch HJ HY HN H b0 HW
        go_wp2_with fail
        refine bodyPost_ret (results_item16 rfl _ _ _ x rfl HE.out.1) rfl ?_
        exact ⟨rfl, HE.out.2⟩
      · have z0 : (x.ch == y.ch) = false := by rw [beq_eq_false_iff_ne]; exact hch
        have HN2 := Lib.hid (hN2 hch)
        clear hc hb hjl hx hin hN2 hch HJ
        go_wp2_with fail
        go_roundw
        case rel => exact ⟨j + 1, by trivial, by omega, by go_num, HN2⟩
        case measure => simp only [intOf]; omega
    · exfalso
      obtain ⟨i2, h2, e2⟩ := List.getElem_of_mem HY.out.1
      exact HJ.out i2 h2 (by have := HN.out; omega) (by rw [e2])

/-- Two rows that grow side by side: pinned ones, slow ones. -/
structure U2 (B : Nat) (w : World) (P L : List It16) (v1 v2 : Value) (W : World) : Prop where
  r1 : RowI 38 W B v1 P
  r2 : RowI 38 W B v2 L
  ne : ∀ g, v1.ownBlock = some g → v2.ownBlock = some g → False
  kept : KeptIn (· < B) w W
theorem U2.start (w : World) : U2 w.heap.size w [] [] (.slice (some ⟨w.heap.size, 0, none⟩) 0 0) (.slice (some ⟨w.heap.size + 1, 0, none⟩) 0 0) ((w.alloc (.cells #[] 38)).alloc (.cells #[] 38)) := by
  have h1 := RwJ.start 38 w
  have h2 := RwJ.start 38 (w.alloc (.cells #[] 38))
  rw [World.size_alloc] at h2
  exact ⟨h1.1.old (keptNew _ _), h2.1.mono (Nat.le_succ _), fun g e1 e2 => by simp only [Value.ownBlock, Option.some.injEq] at e1 e2; omega, h1.2.trans ((keptNew _ _).mono fun k hk => by rw [World.size_alloc]; omega)⟩
section
variable {B gg cap : Nat} {w W w8 : World} {P L : List It16} {x : It16} {v1 v2 : Value} {o : Obj}
theorem U2.app2 (h : U2 B w P L v1 v2 W) (hB : B ≤ W.heap.size) (hg : (W.alloc o).grownBy w8 v2.ownBlock) (hat : v2.ownBlock = some gg ∨ gg = W.heap.size + 1)
    (hown : w8.ownsRow B 38 5 (.slice (some ⟨gg, 0, none⟩) (L.length + 1) cap) (L.length + 1) (cellsI L ++ [.int .i64 x.ch, .int .i64 x.he, .int .i64 x.ti, .bool x.pn, .bool x.bu])) :
    U2 B w P (L ++ [x]) v1 (.slice (some ⟨gg, 0, none⟩) (L.length + 1) cap) w8 := by
  refine ⟨?_, ?_, ?_, ?_⟩
  · refine rowS_block16 (w := W.alloc o) (h.r1.old (keptNew W o)) fun g e => hg.block g ?_ fun e2 => ?_
    · have := (rowS_lt16 h.r1 g e).2
      rw [World.size_alloc]; omega
    · exact h.ne g e e2.symm
  · unfold RowI; rw [List.length_append, cellsI_snoc]; exact hown
  · intro g e1 e2
    obtain rfl : gg = g := by simpa [Value.ownBlock] using e2
    rcases hat with h1 | h1
    · exact h.ne gg e1 h1
    · have := (rowS_lt16 h.r1 gg e1).2
      omega
  · exact (h.kept.trans ((keptNew W o).mono fun k hk => Nat.lt_of_lt_of_le hk hB)).trans ⟨hg.os, hg.tape, hg.output, hg.size, fun k hk => hg.block k (by rw [World.size_alloc]; omega) fun e => by
      have := (rowS_lt16 h.r2 k e.symm).1
      omega⟩
theorem U2.app1 (h : U2 B w P L v1 v2 W) (hB : B ≤ W.heap.size) (hg : (W.alloc o).grownBy w8 v1.ownBlock) (hat : v1.ownBlock = some gg ∨ gg = W.heap.size + 1)
    (hown : w8.ownsRow B 38 5 (.slice (some ⟨gg, 0, none⟩) (P.length + 1) cap) (P.length + 1) (cellsI P ++ [.int .i64 x.ch, .int .i64 x.he, .int .i64 x.ti, .bool x.pn, .bool x.bu])) :
    U2 B w (P ++ [x]) L (.slice (some ⟨gg, 0, none⟩) (P.length + 1) cap) v2 w8 := by
  refine ⟨?_, ?_, ?_, ?_⟩
  · unfold RowI; rw [List.length_append, cellsI_snoc]; exact hown
  · refine rowS_block16 (w := W.alloc o) (h.r2.old (keptNew W o)) fun g e => hg.block g ?_ fun e2 => ?_
    · have := (rowS_lt16 h.r2 g e).2
      rw [World.size_alloc]; omega
    · exact h.ne g e2.symm e
  · intro g e1 e2
    obtain rfl : gg = g := by simpa [Value.ownBlock] using e1
    rcases hat with h1 | h1
    · exact h.ne gg h1 e2
    · have := (rowS_lt16 h.r2 gg e2).2
      omega
  · exact (h.kept.trans ((keptNew W o).mono fun k hk => Nat.lt_of_lt_of_le hk hB)).trans ⟨hg.os, hg.tape, hg.output, hg.size, fun k hk => hg.block k (by rw [World.size_alloc]; omega) fun e => by
      have := (rowS_lt16 h.r1 k e.symm).1
      omega⟩
end

end Go.Proofs.Ytjhmcfhbjfjmkaa
