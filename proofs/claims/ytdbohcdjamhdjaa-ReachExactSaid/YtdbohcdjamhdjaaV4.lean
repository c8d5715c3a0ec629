import Derived.Test.YtdbohcdjamhdjaaV3
import Derived.Deep.RegionLawGrows
import Derived.Defers
import Derived.Recover
import Derived.Laws.Pointers
/- Pages in memory: package tree's Shelf: Add. -/
set_option linter.unusedVariables false
namespace Go.Proofs.Ytdbohcdjamhdjaa
open Go.RowKit

theorem lClip (b n cap : Nat) (hn : n ≤ cap) (hc : cap ≤ maxLen) (w : World) :
    Calls Try.prog 119 #[.slice (some ⟨b, 0, none⟩) n cap] w fun e w' => e = .returned (.slice (some ⟨b, 0, none⟩) n n) ∧ w' = w := by
  have h1 : (n : Int) ≤ (cap : Int) := by omega
  have h2 : (0 : Int) ≤ (n : Int) := by omega
  have h3 : (n : Int) ≤ (n : Int) := by omega
  have h4 : (n : Int) ≤ 9223372036854775807 := by unfold maxLen at hc; omega
  go_enter Try.func119, Try.ntmps119
  go_wp2
  go_ret
  exact ⟨by simp, rfl⟩
theorem lClipNil (w : World) :
    Calls Try.prog 119 #[.slice none 0 0] w fun e w' => e = .returned (.slice none 0 0) ∧ w' = w := by
  go_enter Try.func119, Try.ntmps119
  go_wp2
  go_ret
  exact ⟨rfl, rfl⟩
theorem run_min8 {P : Program} {w : World} (ts : Array TypeId) (t : TypeId) (k k' : IntKind) (x y : Int) : (Builtin.min_ ts t #[.int k x, .int k' y]).run P w = .ok (.int k (min x y)) w := by
  rw [run_min_int2]
  congr 2
  split <;> omega
attribute [local go_sem high] run_min8

/-- What Clip is asked for: the Shelf's list. -/
def ClipOk (la : Option Addr) (n cap : Nat) : Prop := (la = none ∧ n = 0 ∧ cap = 0) ∨ ∃ b, la = some ⟨b, 0, none⟩ ∧ n ≤ cap ∧ cap ≤ maxLen
theorem lClipOk {la : Option Addr} {n cap : Nat} (h : ClipOk la n cap) (w : World) : Calls Try.prog 119 #[.slice la n cap] w fun e w' => e = .returned (.slice la n n) ∧ w' = w := by
  rcases h with ⟨rfl, rfl, rfl⟩ | ⟨b, rfl, h1, h2⟩
  · exact lClipNil w
  · exact lClip b n cap h1 h2 w

/-- The cells of the Shelf's list, whatever they are. -/
def oldC (W : World) (la : Option Addr) (n : Nat) : List Value := match la with
  | none => []
  | some b => (List.range (n * 2)).map fun j => cellOf W (b.add j)

/-- A node was added: it is the last one; all other blocks than the Shelf's stand. -/
def AddS (w : World) (s room : Nat) (N : List Nd) (D : Nat → Prop) (nd : Nd) (e : Ending) (w' : World) : Prop :=
  ∃ D', e = .returned (.tuple #[.int .i64 ((N.length + 1 : Nat) : Int), .int .i64 0]) ∧ IsSh w' s room (N ++ [nd]) D' ∧ (∀ k, D' k → D k ∨ w.heap.size ≤ k) ∧ KeptIn (fun k => k < w.heap.size ∧ k ≠ s) w w'

theorem infoLeaf : (Try.prog.info? 27).map (fun i => (i.zero, i.size, i.bytes)) = some (some (.agg #[.int .i64 0, .slice none 0 0]), 2, 32) := by kernel_rfl

theorem oldC_len {la : Option Addr} {n cap : Nat} (h : ClipOk la n cap) (W : World) : (oldC W la n).length = n * 2 := by
  rcases h with ⟨rfl, rfl, rfl⟩ | ⟨b, rfl, h1, h2⟩
  · rfl
  · simp [oldC]
theorem clip_none {la : Option Addr} {n cap : Nat} (h : ClipOk la n cap) (e : la = none) : n = 0 ∧ n = 0 := by
  rcases h with ⟨_, rfl, _⟩ | ⟨b, rfl, _⟩
  · exact ⟨rfl, rfl⟩
  · cases e
/-- What the Shelf's list is made of. -/
def ListOk (w : World) (s : Nat) (N : List Nd) (D : Nat → Prop) (la : Option Addr) (n : Nat) : Prop :=
  0 < n → ∃ b, la = some ⟨b, 0, none⟩ ∧ D b ∧ b ≠ s ∧ ∀ i (h : i < N.length), NodeAt w (fun k => D k ∧ k ≠ s) b (i * 2) N[i]
theorem oldC_at {w V : World} {s : Nat} {N : List Nd} {D : Nat → Prop} {la : Option Addr} (h : ListOk w s N D la N.length) (hD : ∀ k, D k → k < w.heap.size) (hk : KeptIn (· < w.heap.size) w V) :
    ∀ b, la = some b → ∀ j u, (oldC V la N.length)[j]? = some u → V.cell? (b.add j) = some u := by
  rintro b rfl j u hu
  have hj : j < N.length * 2 := by
    have := (List.getElem?_eq_some_iff.1 hu).1
    simpa [oldC] using this
  obtain ⟨b', e, hb, hbs, hn⟩ := h (by omega)
  obtain rfl := Option.some.inj e
  have hu' : cellOf V ((⟨b', 0, none⟩ : Addr).add j) = u := by
    simp only [oldC, List.getElem?_map, List.getElem?_range hj, Option.map_some, Option.some.injEq] at hu
    exact hu
  rw [← hu']
  obtain ⟨a, cap, h1, h2, _⟩ := (hn (j / 2) (by omega)).kept (hk.mono fun k h => hD k h.1) ⟨hb, hbs⟩ fun _ h => h
  rw [addr_add, Nat.zero_add]
  rcases Nat.mod_two_eq_zero_or_one j with e | e
  · rw [show j / 2 * 2 = j by omega] at h1
    exact cellOf_eq h1
  · rw [show j / 2 * 2 + 1 = j by omega] at h2
    exact cellOf_eq h2

/-- The Shelf behind the append and the store. -/
theorem shAdded {w V w' : World} {s room gg cap' g cg lv : Nat} {N : List Nd} {D : Nat → Prop} {la : Option Addr} {ps : Pairs} {cap : Nat} (h : IsSh w s room N D) (hL : ListOk w s N D la N.length)
    (hs : V.heap[s]? = some (.cells #[.slice la N.length cap, .int .i64 (room : Int)] 30 (0, 0))) (hk : KeptIn (· < w.heap.size) w V) (hg : V.grownBy w' none)
    (hown : w'.ownsRow V.heap.size 27 2 (.slice (some ⟨gg, 0, none⟩) (N.length + 1) cap') (N.length + 1) (oldC V la N.length ++ [.int .i64 (lv : Int), .slice (some ⟨g, 0, none⟩) ps.length cg]))
    (hps : IsPs V (some ⟨g, 0, none⟩) ps) (hge : w.heap.size ≤ g) (hgl : g < V.heap.size) (hlen : N.length < 511) (h0 : 0 < ps.length) (h1 : ps.length ≤ 1000) :
    IsSh (w'.setCell ⟨s, 0, none⟩ (.slice (some ⟨gg, 0, none⟩) (N.length + 1) cap')) s room (N ++ [(lv, ps)]) (fun k => D k ∨ (w.heap.size ≤ k ∧ k < w'.heap.size)) := by
  have hsl : s < w.heap.size := h.lt s h.ds
  have hsV : s < V.heap.size := Nat.lt_of_lt_of_le hsl hk.size
  have hsw : w'.heap[s]? = _ := (hg.block s hsV (by simp)).trans hs
  have hsz : V.heap.size ≤ w'.heap.size := hg.size
  obtain ⟨hbase, hgw⟩ := rowS_lt hown gg rfl
  have hne : gg ≠ s := by omega
  rcases hown.2 with ⟨e, _⟩ | ⟨g1, cap1, cur, e, _, hcur, hc1, hc2, hc3, hc4⟩
  · cases e
  simp only [Value.slice.injEq, Option.some.injEq, Addr.mk.injEq, and_true, true_and] at e
  obtain ⟨rfl, rfl⟩ := e
  have hfar : ∀ k, k < V.heap.size → k ≠ s → (w'.setCell ⟨s, 0, none⟩ (.slice (some ⟨gg, 0, none⟩) (N.length + 1) cap')).heap[k]? = V.heap[k]? := fun k h1 h2 =>
    (heap_setCell_other _ _ _ _ (by simpa using h2)).trans (hg.block k h1 (by simp))
  have hcell : ∀ j u, (oldC V la N.length ++ [.int .i64 (lv : Int), .slice (some ⟨g, 0, none⟩) ps.length cg])[j]? = some u → (w'.setCell ⟨s, 0, none⟩ (.slice (some ⟨gg, 0, none⟩) (N.length + 1) cap')).cell? ⟨gg, j, none⟩ = some u := fun j u hu => by
    rw [World.cell?_of_block (a := ⟨gg, j, none⟩) (heap_setCell_other _ _ _ _ (by simpa using hne)), cell_of_row _ _ _ _ _ _ hcur]
    rw [← hc4, List.getElem?_take] at hu
    split at hu
    · simpa using hu
    · cases hu
  have hol : (oldC V la N.length).length = N.length * 2 := by
    cases la with
    | none =>
      rcases Nat.eq_zero_or_pos N.length with e | e
      · simp [oldC, e]
      · obtain ⟨_, e2, _⟩ := hL e
        cases e2
    | some b => simp [oldC]
  have hkK : KeptIn (fun k => k < V.heap.size ∧ k ≠ s) V (w'.setCell ⟨s, 0, none⟩ (.slice (some ⟨gg, 0, none⟩) (N.length + 1) cap')) :=
    ⟨hg.os, hg.tape, hg.output, by simpa using hsz, fun k hk => hfar k hk.1 hk.2⟩
  refine ⟨.inl h.ds, ?_, ?_, h.rm, ?_, some ⟨gg, 0, none⟩, cap', ?_, ?_, ?_⟩
  · rintro k (hD | ⟨_, h2⟩)
    · have := h.lt k hD
      have := hk.size
      simp
      omega
    · simpa using h2
  · simp; omega
  · intro i hi
    rcases Nat.lt_or_ge i N.length with h2 | h2
    · rw [List.getElem_append_left h2]; exact h.pos i h2
    · rw [List.getElem_append_right h2]
      simp at hi
      simp [show i - N.length = 0 by omega]
      omega
  · rw [heap_setCell_same _ _ _ _ _ _ hsw, List.length_append]
    rfl
  · intro e; simp at e
  · intro _
    refine ⟨gg, rfl, .inr ⟨by have := hk.size; omega, hgw⟩, hne, by simpa using hc1, hc2, fun i hi => ?_⟩
    rcases Nat.lt_or_ge i N.length with h2 | h2
    · rw [List.getElem_append_left h2]
      obtain ⟨b, rfl, hb, hbs, hn⟩ := hL (by omega)
      obtain ⟨a, capn, e1, e2, e3, e4⟩ := (hn i h2).kept (hk.mono fun k h' => h.lt k h'.1) ⟨hb, hbs⟩ fun _ h => h
      have o1 : (oldC V (some ⟨b, 0, none⟩) N.length)[i * 2]? = some (.int .i64 (N[i].1 : Int)) := by
        simp only [oldC, List.getElem?_map, List.getElem?_range (show i * 2 < N.length * 2 by omega), Option.map_some, addr_add, Nat.zero_add]
        rw [cellOf, e1]; rfl
      have o2 : (oldC V (some ⟨b, 0, none⟩) N.length)[i * 2 + 1]? = some (.slice a N[i].2.length capn) := by
        simp only [oldC, List.getElem?_map, List.getElem?_range (show i * 2 + 1 < N.length * 2 by omega), Option.map_some, addr_add, Nat.zero_add]
        rw [cellOf, e2]; rfl
      refine ⟨a, capn, hcell _ _ ?_, hcell _ _ ?_, psAt e3 hkK fun p e => ?_, fun p e => ⟨.inl (e4 p e).1, (e4 p e).2⟩⟩
      · rw [List.getElem?_append_left (by rw [hol]; omega)]; exact o1
      · rw [List.getElem?_append_left (by rw [hol]; omega)]; exact o2
      · have hD := e4 p e
        exact ⟨Nat.lt_of_lt_of_le (h.lt _ hD.1) hk.size, hD.2⟩
    · have hi' : i = N.length := by simp at hi; omega
      subst hi'
      rw [List.getElem_append_right (Nat.le_refl _)]
      simp only [Nat.sub_self, List.getElem_cons_zero]
      refine ⟨some ⟨g, 0, none⟩, cg, hcell _ _ ?_, hcell _ _ ?_, psAt hps hkK fun p e => ?_, fun p e => ?_⟩
      · rw [List.getElem?_append_right (by rw [hol]; omega), hol]; simp
      · rw [List.getElem?_append_right (by rw [hol]; omega), hol]; simp
      · cases e; exact ⟨hgl, by show g ≠ s; omega⟩
      · cases e; exact ⟨.inr ⟨hge, Nat.lt_of_lt_of_le hgl hsz⟩, by show g ≠ s; omega⟩

set_option maxRecDepth 100000 in
theorem shAdd {w : World} {s room : Nat} {N : List Nd} {D : Nat → Prop} (h : IsSh w s room N D) (hroom : N.length < min room 511) (lv : Nat) (a : Option Addr) (cp : Nat) (ps : Pairs) (hps : IsPs w a ps) (h0 : 0 < ps.length) (hl : ps.length ≤ 1000) :
    Calls Try.prog 117 #[.pointer (some ⟨s, 0, none⟩), leafV (lv : Int) a ps.length cp] w (AddS w s room N D (lv, ps)) := by
  obtain ⟨la, cap, h1, hz, h2⟩ := h.mem
  have hsl : s < w.heap.size := h.lt s h.ds
  have CP := Lib.hid fun V (hk : KeptIn (· < w.heap.size) w V) => trCopy (lv : Int) a cp ps V (hps.old hk) h0 (Nat.le_trans hl (by decide))
  obtain ⟨n, hnl⟩ : ∃ n, N.length = n := ⟨_, rfl⟩
  obtain ⟨m, hml⟩ : ∃ m, ps.length = m := ⟨_, rfl⟩
  have HC : Hid (ClipOk la n cap) := Lib.hid (by
    rw [← hnl]
    rcases Nat.eq_zero_or_pos N.length with e | e
    · obtain ⟨rfl, rfl⟩ := hz e
      exact .inl ⟨rfl, e, rfl⟩
    · obtain ⟨b, rfl, _, _, h3, h4, _⟩ := h2 e
      exact .inr ⟨b, rfl, h3, h4⟩)
  obtain ⟨W, hW⟩ : ∃ W, w.alloc (.cells #[.int .i64 (lv : Int), .slice a m cp] 27) = W := ⟨_, rfl⟩
  have hk : KeptIn (· < w.heap.size) w W := by rw [← hW]; exact (KeptIn.refl _ w).alloc (fun _ h => h) _
  have hb : BoxL w.heap.size (lv : Int) a m cp W := by rw [← hW]; exact BoxL.new w _ _ _ _
  obtain ⟨x, hx⟩ : ∃ x, w.heap.size = x := ⟨_, rfl⟩
  have hsb := (hk.block s hsl).trans h1
  rw [hnl] at hsb hroom
  have c0 : W.cell? ⟨s, 0, none⟩ = some (.slice la n cap) := by simp [World.cell?, hsb]
  have c1 : W.cell? ⟨s, 1, none⟩ = some (.int .i64 (room : Int)) := by simp [World.cell?, hsb]
  have c2 := hb.c0
  have c3 := hb.c1
  unfold leafV at CP ⊢
  rw [hml] at CP ⊢
  rw [hx] at c2 c3
  have HH := Lib.hid h
  have HNL := Lib.hid hnl
  have HML := Lib.hid hml
  have HSB := Lib.hid hsb
  have HKB := Lib.hid (And.intro hk hb)
  have HHZ := Lib.hid hz
  have HH2 := Lib.hid h2
  obtain ⟨u, hu⟩ : ∃ u, min room 511 = u := ⟨_, rfl⟩
  have hui : min (room : Int) 511 = (u : Int) := by omega
  rw [hu] at hroom
  have r1 : ¬ ((u : Int) ≤ (n : Int)) := by omega
  have r2 : ¬ (u ≤ n) := by omega
  clear hu
  clear h hnl hml hsb hk hb hz h2 hps h1
  go_enter Try.func117, Try.ntmps117
  go_wp2_with fail
  go_quiet (fail)
  go_wp2_with fail
  obtain ⟨V0, hV0⟩ : ∃ V0, W.drewN nq = V0 := ⟨_, rfl⟩
  have k0 : KeptIn (· < W.heap.size) W V0.drew := by rw [← hV0]; exact ((KeptIn.refl _ _).drewN nq).drew
  have HG : Hid (∀ V, KeptIn (· < W.heap.size) W V → V.cell? ⟨s, 0, none⟩ = some (.slice la n cap) ∧ V.frozen? ⟨s, 0, none⟩ = false ∧ V.cell? ⟨x, 0, none⟩ = some (.int .i64 (lv : Int)) ∧ V.cell? ⟨x, 1, none⟩ = some (.slice a m cp) ∧
      V.heap[s]? = some (.cells #[.slice la n cap, .int .i64 (room : Int)] 30 (0, 0)) ∧ ∀ o, (V.alloc o).cell? ⟨s, 0, none⟩ = some (.slice la n cap) ∧ (V.alloc o).heap[s]? = some (.cells #[.slice la n cap, .int .i64 (room : Int)] 30 (0, 0))) := Lib.hid fun V hV => by
    have hsW : s < W.heap.size := Nat.lt_of_lt_of_le hsl HKB.out.1.size
    have h1 := (hV.block s hsW).trans HSB.out
    have h2 := HKB.out.2.kept hV HKB.out.2.lt
    rw [hx] at h2
    have h3 : ∀ o, (V.alloc o).heap[s]? = some (.cells #[.slice la n cap, .int .i64 (room : Int)] 30 (0, 0)) := fun o => (Lib.alloc_old V o s (Nat.lt_of_lt_of_le hsW hV.size)).trans h1
    exact ⟨by simp [World.cell?, h1], by simp [World.frozen?, h1], h2.c0, h2.c1, h1, fun o => ⟨by simp [World.cell?, h3 o], h3 o⟩⟩
  have HL : Hid (ListOk w s N D la N.length) := Lib.hid fun e => by
    obtain ⟨b, h1, h2, h3, _, _, h4⟩ := HH2.out e
    exact ⟨b, h1, h2, h3, h4⟩
  have HG2 : Hid (∀ V g cg, KeptIn (· < W.heap.size) W V → ∃ V2, V.alloc (.cells #[.int .i64 (lv : Int), .slice (some ⟨g, 0, none⟩) m cg] 27) = V2 ∧ V2.cell? ⟨s, 0, none⟩ = some (.slice la n cap) ∧
      (∀ b, la = some b → ∀ j u, (oldC V2 la n)[j]? = some u → V2.cell? (b.add j) = some u) ∧ (∀ j u, [Value.int .i64 (lv : Int), .slice (some ⟨g, 0, none⟩) m cg][j]? = some u → V2.cell? ((⟨V.heap.size, 0, none⟩ : Addr).add j) = some u) ∧
      (∀ w1, V2.grownBy w1 none → w1.cell? ⟨s, 0, none⟩ = some (.slice la n cap) ∧ w1.frozen? ⟨s, 0, none⟩ = false) ∧ KeptIn (· < w.heap.size) w V2 ∧ V.heap.size + 1 = V2.heap.size ∧ V2.heap[s]? = some (.cells #[.slice la n cap, .int .i64 (room : Int)] 30 (0, 0)) ∧ KeptIn (· < V.heap.size) V V2) := Lib.hid fun V g cg hV => by
    have h := (HG.out V hV).2.2.2.2.2 (.cells #[.int .i64 (lv : Int), .slice (some ⟨g, 0, none⟩) m cg] 27)
    have hkV := (KeptIn.refl (· < V.heap.size) V).alloc (fun _ h => h) (.cells #[.int .i64 (lv : Int), .slice (some ⟨g, 0, none⟩) m cg] 27)
    have hk2 : KeptIn (· < w.heap.size) w (V.alloc (.cells #[.int .i64 (lv : Int), .slice (some ⟨g, 0, none⟩) m cg] 27)) := (HKB.out.1.go hV).go hkV
    refine ⟨_, rfl, h.1, ?_, World.news_of_block (heap_alloc_new V _), fun w1 hg => ?_, hk2, by simp, h.2, hkV⟩
    · rw [← HNL.out]; exact oldC_at HL.out HH.out.lt hk2
    · have : w1.heap[s]? = _ := (hg.block s (Nat.lt_of_lt_of_le hsl hk2.size) (by simp)).trans h.2
      exact ⟨by simp [World.cell?, this], by simp [World.frozen?, this]⟩
  obtain ⟨g0, g1, g2, g3, _, _⟩ := HG.out _ k0
  obtain ⟨il, hil, hl0, hl1, hl2⟩ := info_parts infoLeaf
  have b1 : n + 1 ≤ maxLen := by unfold maxLen; omega
  have b2 : (n + 1) * 32 ≤ 140737488355328 := by omega
  rw [hV0]
  clear hV0 c0 c1 c2 c3
  go_region_law (first
    | (refine step_append_grows (by rfl) _ _ 22 (by rfl) 27 il _ 2 32 Try.underlying22 hil hl0 hl1 hl2 rfl (by omega) la n n (oldC V2 la n) (by rfl) (clip_none HC.out) (oldC_len HC.out V2) hold ⟨V.heap.size, 0, none⟩ 1 1 [.int .i64 (lv : Int), .slice (some ⟨g, 0, none⟩) m cg] (by rfl) (by rfl) hnews (by simp [Value.oneCell']) (by omega) b1 b2 ?_; intro v' w' hown hgrow; obtain ⟨gg, cap', rfl, hgg1, hgg2⟩ := World.ownsRow.form hown (by omega); obtain ⟨e1, e2⟩ := hgr w' hgrow)
    | (go_simp; go_at_call 119; refine (lClipOk HC.out _).mono ?_; rintro e _ ⟨rfl, rfl⟩)
    | (go_simp; go_at_call 120; refine (CP.out _ (HKB.out.1.go k0)).mono ?_; rintro e V ⟨g, cg, rfl, hpsV, hgV, hkV, _⟩; unfold leafV; rw [HML.out]; obtain ⟨g4, g5, g6, g7, _, _⟩ := HG.out V (k0.go hkV); obtain ⟨V2, hV2, g10, hold, hnews, hgr, hk2, hsz2, hs2, hkV2⟩ := HG2.out V g cg (k0.go hkV)))
  all_goals
    have hgl : g < V.heap.size := by
      obtain ⟨b', _, e', hb', _⟩ := hpsV.cells h0
      cases e'
      exact hb'
    have hA := shAdded (gg := gg) (cap' := cap') (g := g) (cg := cg) (lv := lv) (ps := ps) (cap := cap) HH.out HL.out (by rw [HNL.out]; exact hs2) hk2 hgrow (by rw [HNL.out, HML.out]; exact hown) (hpsV.old hkV2) (Nat.le_trans HKB.out.1.size (Nat.le_trans k0.size hgV)) (by rw [← hsz2]; exact Nat.lt_succ_of_lt hgl) (by rw [HNL.out]; omega) h0 hl
    have hkF : KeptIn (fun k => k < w.heap.size ∧ k ≠ s) w (w'.setCell ⟨s, 0, none⟩ (.slice (some ⟨gg, 0, none⟩) (n + 1) cap')) := ((hk2.mono fun k h => h.1).trans ⟨hgrow.os, hgrow.tape, hgrow.output, hgrow.size, fun k hk => hgrow.block k (Nat.lt_of_lt_of_le hk.1 hk2.size) (by simp)⟩).setCell (by simp) _
    have hs9 : (w'.setCell ⟨s, 0, none⟩ (.slice (some ⟨gg, 0, none⟩) (n + 1) cap')).cell? ⟨s, 0, none⟩ = some (.slice (some ⟨gg, 0, none⟩) (n + 1) cap') := World.cell?_setCell_same' _ _ _ (by rw [e1]; rfl)
    rw [HNL.out] at hA
    obtain ⟨W9, hW9⟩ : ∃ W9, w'.setCell ⟨s, 0, none⟩ (.slice (some ⟨gg, 0, none⟩) (n + 1) cap') = W9 := ⟨_, rfl⟩
    rw [hW9] at hA hkF hs9 ⊢
    have HA := Lib.hid hA
    have HF := Lib.hid hkF
    have hn9 : (n : Int) + 1 ≤ 9223372036854775807 := by omega
    clear hW9 hA hkF hown hgrow hold hnews hgr hV2 g0 g1 g2 g3 g4 g5 g6 g7 g10 e1 e2 hs2
    go_wp2_with fail
    go_ret2
    exact ⟨_, by rw [HNL.out]; simp, HA.out, fun k hk => hk.imp id fun h => h.1, HF.out⟩

set_option maxRecDepth 100000 in
theorem shFull {w : World} {s room : Nat} {N : List Nd} {D : Nat → Prop} (h : IsSh w s room N D) (hroom : min room 511 ≤ N.length) (lv : Int) (a : Option Addr) (m cp : Nat) :
    Calls Try.prog 117 #[.pointer (some ⟨s, 0, none⟩), leafV lv a m cp] w fun e w' => e = .returned (.tuple #[.int .i64 0, .int .i64 6]) ∧ KeptIn (· < w.heap.size) w w' := by
  obtain ⟨la, cap, h1, hz, h2⟩ := h.mem
  have hsl : s < w.heap.size := h.lt s h.ds
  have hlen := h.len
  obtain ⟨n, hnl⟩ : ∃ n, N.length = n := ⟨_, rfl⟩
  obtain ⟨W, hW⟩ : ∃ W, w.alloc (.cells #[.int .i64 lv, .slice a m cp] 27) = W := ⟨_, rfl⟩
  have hk : KeptIn (· < w.heap.size) w W := by rw [← hW]; exact (KeptIn.refl _ w).alloc (fun _ h => h) _
  have hsb := (hk.block s hsl).trans h1
  rw [hnl] at hsb hroom hlen
  have c0 : W.cell? ⟨s, 0, none⟩ = some (.slice la n cap) := by simp [World.cell?, hsb]
  have c1 : W.cell? ⟨s, 1, none⟩ = some (.int .i64 (room : Int)) := by simp [World.cell?, hsb]
  obtain ⟨u, hu⟩ : ∃ u, min room 511 = u := ⟨_, rfl⟩
  have hui : min (room : Int) 511 = (u : Int) := by omega
  rw [hu] at hroom
  have r1 : (u : Int) ≤ (n : Int) := by omega
  have r3 : ¬ ((n : Int) < (u : Int)) := by omega
  have HK := Lib.hid hk
  clear hu h hz h2 hsb hk h1
  unfold leafV
  go_enter Try.func117, Try.ntmps117
  go_wp2_with fail
  go_quiet (fail)
  go_wp2_with fail
  go_ret2
  exact ⟨rfl, HK.out.drewN _⟩

end Go.Proofs.Ytdbohcdjamhdjaa
/- Package tree's read and add: through the interface, with a recover that finds nothing. -/
set_option linter.unusedVariables false
namespace Go.Proofs.Ytdbohcdjamhdjaa
open Go.RowKit

/-- The Shelf as pages: an interface value. -/
def pgV (s : Nat) : Value := .iface 28 (.pointer (some ⟨s, 0, none⟩))

theorem trRead1 (a b : Value) (w : World) :
    CallsD Try.prog 87 #[a, b] .returning w fun e u' w' => e = .returned (.tuple #[]) ∧ u' = .returning ∧ w' = w := by
  refine callsD_of_wpS Try.func87 rfl fun c₀ cs hu => ?_
  apply wpS_seq
  apply wpS_region
  simp [wpOpsS, go_sem, recoverD, hu, Try.ntmps87, Exit.thenS]
  refine wpS_cond (t := false) (by simp [Act.eval, Array.replicate]) ?_
  simp only [Bool.false_eq_true, if_false]
  refine wpS_of_wp (wp_skip ?_)
  cases c₀
  simp_all [bodyPostS, results, Try.results87]
theorem trAdd1 (a b : Value) (w : World) :
    CallsD Try.prog 92 #[a, b] .returning w fun e u' w' => e = .returned (.tuple #[]) ∧ u' = .returning ∧ w' = w := by
  refine callsD_of_wpS Try.func92 rfl fun c₀ cs hu => ?_
  apply wpS_seq
  apply wpS_region
  simp [wpOpsS, go_sem, recoverD, hu, Try.ntmps92, Exit.thenS]
  refine wpS_cond (t := false) (by simp [Act.eval, Array.replicate]) ?_
  simp only [Bool.false_eq_true, if_false]
  refine wpS_of_wp (wp_skip ?_)
  cases c₀
  simp_all [bodyPostS, results, Try.results92]

theorem results_leafE {fn : Func} {p u : Tmp} (h : fn.results = #[.cell p 27, .cell u 32]) (tmps : Array Value) (w : World) (x : Nat) (lv : Int) (a : Option Addr) (n cap y : Nat) (ev : Int)
    (hp : tmps.getD p undef = .pointer (some ⟨x, 0, none⟩)) (hu : tmps.getD u undef = .pointer (some ⟨y, 0, none⟩)) (hb : BoxL x lv a n cap w) (hy : w.cell? ⟨y, 0, none⟩ = some (.int .i64 ev)) :
    (results fn tmps).run Try.prog w = .ok (.tuple #[leafV lv a n cap, .int .i64 ev]) w := by
  have c0 := hb.c0
  have c1 := hb.c1
  have hp' : tmps[p]?.getD undef = .pointer (some ⟨x, 0, none⟩) := by simpa using hp
  have hu' : tmps[u]?.getD undef = .pointer (some ⟨y, 0, none⟩) := by simpa using hu
  simp [results, h, hp', hu', asAddr, c0, c1, leafV, hy, go_sem]
theorem results_intE {fn : Func} {p u : Tmp} (h : fn.results = #[.cell p 3, .cell u 32]) (tmps : Array Value) (w : World) (x y : Nat) (iv ev : Int)
    (hp : tmps.getD p undef = .pointer (some ⟨x, 0, none⟩)) (hu : tmps.getD u undef = .pointer (some ⟨y, 0, none⟩)) (hx : w.cell? ⟨x, 0, none⟩ = some (.int .i64 iv)) (hy : w.cell? ⟨y, 0, none⟩ = some (.int .i64 ev)) :
    (results fn tmps).run Try.prog w = .ok (.tuple #[.int .i64 iv, .int .i64 ev]) w := by
  have hp' : tmps[p]?.getD undef = .pointer (some ⟨x, 0, none⟩) := by simpa using hp
  have hu' : tmps[u]?.getD undef = .pointer (some ⟨y, 0, none⟩) := by simpa using hu
  simp [results, h, hp', hu', asAddr, hx, hy, go_sem]

set_option maxRecDepth 100000 in
theorem trRead {w : World} {s room : Nat} {N : List Nd} {D : Nat → Prop} (h : IsSh w s room N D) (i : Nat) (hi : i < N.length) :
    Calls Try.prog 69 #[pgV s, .int .i64 ((i + 1 : Nat) : Int)] w (RdS w (N[i].1 : Int) N[i].2) := by
  have hmf : ∀ (fn : Fn) (first cap : Array Value) (w : World), (Instr.makeFunc fn first cap).run Try.prog w = .ok (.func fn first cap) w := fun _ _ _ _ => rfl
  obtain ⟨p, hp⟩ : ∃ p, i + 1 = p := ⟨_, rfl⟩
  obtain ⟨lv, hlv⟩ : ∃ lv, N[i].1 = lv := ⟨_, rfl⟩
  obtain ⟨ps, hpe⟩ : ∃ ps, N[i].2 = ps := ⟨_, rfl⟩
  obtain ⟨W, hW⟩ : ∃ W, (w.alloc (.cells #[.int .i64 0, .slice none 0 0] 27)).alloc (.cells #[.int .i64 0] 32) = W := ⟨_, rfl⟩
  have hk : KeptIn (· < w.heap.size) w W := by rw [← hW]; exact ((KeptIn.refl _ w).alloc (fun _ h => h) _).alloc (fun _ h => h) _
  have C := shRead (h.old hk) i hi
  rw [hp, hlv, hpe] at C
  rw [hp, hlv, hpe]
  have HC := Lib.hid C
  obtain ⟨x, hx⟩ : ∃ x, w.heap.size = x := ⟨_, rfl⟩
  have hb : BoxL x 0 none 0 0 W := by rw [← hW, ← hx]; exact (BoxL.new w 0 none 0 0).kept ((KeptIn.refl _ _).alloc (fun _ h => h) _) (by simp)
  have hb2 : W.heap[x + 1]? = some (.cells #[.int .i64 0] 32 (0, 0)) := by
    rw [← hW, ← hx, show w.heap.size + 1 = (w.alloc (.cells #[.int .i64 0, .slice none 0 0] 27)).heap.size by simp]
    exact heap_alloc_new _ _
  have HB := Lib.hid (And.intro hb (And.intro hb2 hk))
  clear C hb hb2 hk hp hlv hpe hi
  unfold pgV
  go_enter_defers Try.func69, Try.ntmps69
  go_wp2_with (go_at_call 118; refine HC.out.mono ?_)
  rintro e V ⟨g, cg, rfl, hps, hg, hkV, hty⟩
  have hbV := HB.out.1.kept hkV HB.out.1.lt
  have hb2V := (hkV.block (x + 1) (Array.getElem?_eq_some_iff.1 HB.out.2.1).1).trans HB.out.2.1
  have c0 := hbV.c0
  have f0 := hbV.f0
  have c1 := hbV.c1
  have f1 := hbV.f1
  have c2 : V.cell? ⟨x + 1, 0, none⟩ = some (.int .i64 0) := by simp [World.cell?, hb2V]
  have f2 : V.frozen? ⟨x + 1, 0, none⟩ = false := by simp [World.frozen?, hb2V]
  have hwx : x ≤ W.heap.size := by rw [← hx]; exact HB.out.2.2.size
  have hxg : x + 1 < g := Nat.lt_of_lt_of_le (Array.getElem?_eq_some_iff.1 HB.out.2.1).1 hg
  have hkx : KeptIn (· < x) w V := by rw [← hx]; exact HB.out.2.2.go hkV
  have HF := Lib.hid (And.intro hbV (And.intro hb2V (And.intro hps (And.intro hxg hkx))))
  have HTY := Lib.hid hty
  clear hty
  clear hbV hb2V hps hxg hkx hkV hg hwx
  unfold leafV at *
  obtain ⟨m, hm⟩ : ∃ m, ps.length = m := ⟨_, rfl⟩
  rw [hm]
  go_wp2_with fail
  have hset := BoxL.set (lv' := (lv : Int)) (a' := some ⟨g, 0, none⟩) (n' := m) (cap' := cg) HF.out.1
  have hset2 : BoxL x (lv : Int) (some ⟨g, 0, none⟩) m cg (((V.setCell ⟨x, 0, none⟩ (.int .i64 (lv : Int))).setCell ⟨x, 1, none⟩ (.slice (some ⟨g, 0, none⟩) m cg)).setCell ⟨x + 1, 0, none⟩ (.int .i64 0)) := (heap_setCell_other _ _ _ _ (by simp)).trans hset
  have hps := psSet (psSet (psSet HF.out.2.2.1 ⟨x, 0, none⟩ (.int .i64 (lv : Int)) (fun p e => by cases e; have := HF.out.2.2.2.1; simp; omega)) ⟨x, 1, none⟩ (.slice (some ⟨g, 0, none⟩) m cg) (fun p e => by cases e; have := HF.out.2.2.2.1; simp; omega)) ⟨x + 1, 0, none⟩ (.int .i64 0) (fun p e => by cases e; have := HF.out.2.2.2.1; simp; omega)
  have hkx := ((HF.out.2.2.2.2.setCell (p := ⟨x, 0, none⟩) (by simp) (.int .i64 (lv : Int))).setCell (p := ⟨x, 1, none⟩) (by simp) (.slice (some ⟨g, 0, none⟩) m cg)).setCell (p := ⟨x + 1, 0, none⟩) (by simp) (.int .i64 0)
  have he : (((V.setCell ⟨x, 0, none⟩ (.int .i64 (lv : Int))).setCell ⟨x, 1, none⟩ (.slice (some ⟨g, 0, none⟩) m cg)).setCell ⟨x + 1, 0, none⟩ (.int .i64 0)).cell? ⟨x + 1, 0, none⟩ = some (.int .i64 0) := World.cell?_setCell_same' _ _ _ (by
    have : ((V.setCell ⟨x, 0, none⟩ (.int .i64 (lv : Int))).setCell ⟨x, 1, none⟩ (.slice (some ⟨g, 0, none⟩) m cg)).heap[x + 1]? = V.heap[x + 1]? := (heap_setCell_other _ _ _ _ (by simp)).trans (heap_setCell_other _ _ _ _ (by simp))
    rw [World.cell?_of_block (a := ⟨x + 1, 0, none⟩) this, c2]; rfl)
  have hty9 := ((HTY.out.set ⟨x, 0, none⟩ (.int .i64 (lv : Int)) (by have := HF.out.2.2.2.1; simp; omega)).set ⟨x, 1, none⟩ (.slice (some ⟨g, 0, none⟩) m cg) (by have := HF.out.2.2.2.1; simp; omega)).set ⟨x + 1, 0, none⟩ (.int .i64 0) (by have := HF.out.2.2.2.1; simp; omega)
  obtain ⟨W9, hW9⟩ : ∃ W9, ((V.setCell ⟨x, 0, none⟩ (.int .i64 (lv : Int))).setCell ⟨x, 1, none⟩ (.slice (some ⟨g, 0, none⟩) m cg)).setCell ⟨x + 1, 0, none⟩ (.int .i64 0) = W9 := ⟨_, rfl⟩
  rw [hW9] at hset2 hps hkx he hty9 ⊢
  clear hW9
  refine leaves_cons (f := 87) (args := #[.pointer (some ⟨x, 0, none⟩), .pointer (some ⟨x + 1, 0, none⟩)]) (by simp) (by simp [go_sem]) ?_
  refine (trRead1 _ _ _).mono ?_
  rintro e u' w'' ⟨rfl, rfl, rfl⟩
  exact ⟨_, results_leafE rfl _ _ x _ _ _ _ (x + 1) _ rfl rfl hset2 he, g, cg, by rw [hm], hps, by rw [hx]; have := HF.out.2.2.2.1; omega, by rw [hx]; exact hkx, hty9⟩

set_option maxRecDepth 100000 in
theorem trAdd {w : World} {s room : Nat} {N : List Nd} {D : Nat → Prop} (h : IsSh w s room N D) (hroom : N.length < min room 511) (lv : Nat) (a : Option Addr) (cp : Nat) (ps : Pairs) (hps : IsPs w a ps) (h0 : 0 < ps.length) (hl : ps.length ≤ 1000) :
    Calls Try.prog 77 #[pgV s, leafV (lv : Int) a ps.length cp] w (AddS w s room N D (lv, ps)) := by
  have hmf : ∀ (fn : Fn) (first cap : Array Value) (w : World), (Instr.makeFunc fn first cap).run Try.prog w = .ok (.func fn first cap) w := fun _ _ _ _ => rfl
  obtain ⟨m, hm⟩ : ∃ m, ps.length = m := ⟨_, rfl⟩
  obtain ⟨W, hW⟩ : ∃ W, ((w.alloc (.cells #[.int .i64 (lv : Int), .slice a m cp] 27)).alloc (.cells #[.int .i64 0] 3)).alloc (.cells #[.int .i64 0] 32) = W := ⟨_, rfl⟩
  have hk : KeptIn (· < w.heap.size) w W := by rw [← hW]; exact (((KeptIn.refl _ w).alloc (fun _ h => h) _).alloc (fun _ h => h) _).alloc (fun _ h => h) _
  have hsz : W.heap.size = w.heap.size + 3 := by rw [← hW]; simp
  have C := shAdd (h.old hk) hroom lv a cp ps (hps.old hk) h0 hl
  unfold leafV at C ⊢
  rw [hm] at C ⊢
  obtain ⟨n9, hn9⟩ : ∃ n9, N.length + 1 = n9 := ⟨_, rfl⟩
  have HC := Lib.hid C
  obtain ⟨x, hx⟩ : ∃ x, w.heap.size = x := ⟨_, rfl⟩
  rw [hx] at hsz
  have hlf : BoxL x (lv : Int) a m cp W := by
    rw [← hW, ← hx]
    exact ((BoxL.new w (lv : Int) a m cp).kept ((KeptIn.refl _ _).alloc (fun _ h => h) _) (by simp)).kept ((KeptIn.refl _ _).alloc (fun _ h => h) _) (by simp; omega)
  have hb1 : W.heap[x + 1]? = some (.cells #[.int .i64 0] 3 (0, 0)) := by
    rw [← hW, ← hx, show w.heap.size + 1 = (w.alloc (.cells #[.int .i64 (lv : Int), .slice a m cp] 27)).heap.size by simp]
    exact (Lib.alloc_old _ _ _ (by simp)).trans (heap_alloc_new _ _)
  have hb2 : W.heap[x + 2]? = some (.cells #[.int .i64 0] 32 (0, 0)) := by
    rw [← hW, ← hx, show w.heap.size + 2 = ((w.alloc (.cells #[.int .i64 (lv : Int), .slice a m cp] 27)).alloc (.cells #[.int .i64 0] 3)).heap.size by simp]
    exact heap_alloc_new _ _
  have c0 := hlf.c0
  have c1 := hlf.c1
  have HB := Lib.hid (And.intro hb1 (And.intro hb2 (And.intro hk (And.intro hsz (h.lt s h.ds)))))
  have HH := Lib.hid h
  clear C hb1 hb2 hk hps hlf hsz h hroom hl
  unfold pgV
  go_enter_defers Try.func77, Try.ntmps77
  go_wp2_with (go_at_call 117; refine HC.out.mono ?_)
  rintro e V ⟨D', rfl, hV, hD', hkV⟩
  rw [hn9]
  have hs : s < x := by rw [← hx]; exact HB.out.2.2.2.2
  have hb1V := (hkV.block (x + 1) ⟨by rw [HB.out.2.2.2.1]; omega, by omega⟩).trans HB.out.1
  have hb2V := (hkV.block (x + 2) ⟨by rw [HB.out.2.2.2.1]; omega, by omega⟩).trans HB.out.2.1
  have d1 : V.cell? ⟨x + 1, 0, none⟩ = some (.int .i64 0) := by simp [World.cell?, hb1V]
  have f1 : V.frozen? ⟨x + 1, 0, none⟩ = false := by simp [World.frozen?, hb1V]
  have d2 : V.cell? ⟨x + 2, 0, none⟩ = some (.int .i64 0) := by simp [World.cell?, hb2V]
  have f2 : V.frozen? ⟨x + 2, 0, none⟩ = false := by simp [World.frozen?, hb2V]
  have hn1 : ¬ D' (x + 1) := fun hd => by
    rcases hD' _ hd with h1 | h1
    · have := HH.out.lt _ h1; omega
    · have := HB.out.2.2.2.1; omega
  have hn2 : ¬ D' (x + 2) := fun hd => by
    rcases hD' _ hd with h1 | h1
    · have := HH.out.lt _ h1; omega
    · have := HB.out.2.2.2.1; omega
  have hDD : ∀ k, D' k → D k ∨ w.heap.size ≤ k := fun k hd => (hD' k hd).imp id fun h1 => Nat.le_trans HB.out.2.2.1.size h1
  have hkw : KeptIn (fun k => k < w.heap.size ∧ k ≠ s) w V := (HB.out.2.2.1.mono fun _ h => h.1).trans (hkV.mono fun k h => ⟨Nat.lt_of_lt_of_le h.1 HB.out.2.2.1.size, h.2⟩)
  have HF := Lib.hid (And.intro hV (And.intro hDD (And.intro hkw (And.intro hn1 (And.intro hn2 (And.intro hb1V hb2V))))))
  clear hV hDD hkw hn1 hn2 hkV hD' hb1V hb2V hs
  go_wp2_with fail
  have hV9 := (HF.out.1.kept ((KeptIn.refl D' V).setCell (p := ⟨x + 1, 0, none⟩) HF.out.2.2.2.1 (.int .i64 (n9 : Int)))).kept ((KeptIn.refl D' _).setCell (p := ⟨x + 2, 0, none⟩) HF.out.2.2.2.2.1 (.int .i64 0))
  have hk9 := (HF.out.2.2.1.setCell (p := ⟨x + 1, 0, none⟩) (fun h => by have h1 : x + 1 < w.heap.size := h.1; omega) (.int .i64 (n9 : Int))).setCell (p := ⟨x + 2, 0, none⟩) (fun h => by have h1 : x + 2 < w.heap.size := h.1; omega) (.int .i64 0)
  have q1 : ((V.setCell ⟨x + 1, 0, none⟩ (.int .i64 (n9 : Int))).setCell ⟨x + 2, 0, none⟩ (.int .i64 0)).cell? ⟨x + 1, 0, none⟩ = some (.int .i64 (n9 : Int)) := by
    rw [World.cell?_of_block (a := ⟨x + 1, 0, none⟩) (heap_setCell_other _ _ _ _ (by simp))]
    exact World.cell?_setCell_same' _ _ _ (by rw [d1]; rfl)
  have q2 : ((V.setCell ⟨x + 1, 0, none⟩ (.int .i64 (n9 : Int))).setCell ⟨x + 2, 0, none⟩ (.int .i64 0)).cell? ⟨x + 2, 0, none⟩ = some (.int .i64 0) := World.cell?_setCell_same' _ _ _ (by
    rw [World.cell?_of_block (a := ⟨x + 2, 0, none⟩) (heap_setCell_other _ _ _ _ (by simp)), d2]; rfl)
  obtain ⟨W9, hW9⟩ : ∃ W9, (V.setCell ⟨x + 1, 0, none⟩ (.int .i64 (n9 : Int))).setCell ⟨x + 2, 0, none⟩ (.int .i64 0) = W9 := ⟨_, rfl⟩
  rw [hW9] at hV9 hk9 q1 q2 ⊢
  clear hW9
  refine leaves_cons (f := 92) (args := #[.pointer (some ⟨x + 1, 0, none⟩), .pointer (some ⟨x + 2, 0, none⟩)]) (by simp) (by simp [go_sem]) ?_
  refine (trAdd1 _ _ _).mono ?_
  rintro e u' w'' ⟨rfl, rfl, rfl⟩
  exact ⟨_, results_intE rfl _ _ (x + 1) (x + 2) _ _ rfl rfl q1 q2, D', by rw [hn9], hV9, HF.out.2.1, hk9⟩

set_option maxRecDepth 100000 in
theorem trAddFull {w : World} {s room : Nat} {N : List Nd} {D : Nat → Prop} (h : IsSh w s room N D) (hroom : min room 511 ≤ N.length) (lv : Nat) (a : Option Addr) (cp : Nat) (ps : Pairs) :
    Calls Try.prog 77 #[pgV s, leafV (lv : Int) a ps.length cp] w fun e w' => e = .returned (.tuple #[.int .i64 0, .int .i64 6]) ∧ KeptIn (· < w.heap.size) w w' := by
  have hmf : ∀ (fn : Fn) (first cap : Array Value) (w : World), (Instr.makeFunc fn first cap).run Try.prog w = .ok (.func fn first cap) w := fun _ _ _ _ => rfl
  obtain ⟨m, hm⟩ : ∃ m, ps.length = m := ⟨_, rfl⟩
  obtain ⟨W, hW⟩ : ∃ W, ((w.alloc (.cells #[.int .i64 (lv : Int), .slice a m cp] 27)).alloc (.cells #[.int .i64 0] 3)).alloc (.cells #[.int .i64 0] 32) = W := ⟨_, rfl⟩
  have hk : KeptIn (· < w.heap.size) w W := by rw [← hW]; exact (((KeptIn.refl _ w).alloc (fun _ h => h) _).alloc (fun _ h => h) _).alloc (fun _ h => h) _
  have hsz : W.heap.size = w.heap.size + 3 := by rw [← hW]; simp
  have C := shFull (h.old hk) hroom (lv : Int) a m cp
  unfold leafV at C ⊢
  rw [hm]
  have HC := Lib.hid C
  obtain ⟨x, hx⟩ : ∃ x, w.heap.size = x := ⟨_, rfl⟩
  rw [hx] at hsz
  have hlf : BoxL x (lv : Int) a m cp W := by
    rw [← hW, ← hx]
    exact ((BoxL.new w (lv : Int) a m cp).kept ((KeptIn.refl _ _).alloc (fun _ h => h) _) (by simp)).kept ((KeptIn.refl _ _).alloc (fun _ h => h) _) (by simp; omega)
  have hb1 : W.heap[x + 1]? = some (.cells #[.int .i64 0] 3 (0, 0)) := by
    rw [← hW, ← hx, show w.heap.size + 1 = (w.alloc (.cells #[.int .i64 (lv : Int), .slice a m cp] 27)).heap.size by simp]
    exact (Lib.alloc_old _ _ _ (by simp)).trans (heap_alloc_new _ _)
  have hb2 : W.heap[x + 2]? = some (.cells #[.int .i64 0] 32 (0, 0)) := by
    rw [← hW, ← hx, show w.heap.size + 2 = ((w.alloc (.cells #[.int .i64 (lv : Int), .slice a m cp] 27)).alloc (.cells #[.int .i64 0] 3)).heap.size by simp]
    exact heap_alloc_new _ _
  have c0 := hlf.c0
  have c1 := hlf.c1
  have HB := Lib.hid (And.intro hb1 (And.intro hb2 (And.intro hk hsz)))
  clear C hb1 hb2 hk hlf hsz h hroom
  unfold pgV
  go_enter_defers Try.func77, Try.ntmps77
  go_wp2_with (go_at_call 117; refine HC.out.mono ?_)
  rintro e V ⟨rfl, hkV⟩
  have hb1V := (hkV.block (x + 1) (by rw [HB.out.2.2.2]; omega)).trans HB.out.1
  have hb2V := (hkV.block (x + 2) (by rw [HB.out.2.2.2]; omega)).trans HB.out.2.1
  have d1 : V.cell? ⟨x + 1, 0, none⟩ = some (.int .i64 0) := by simp [World.cell?, hb1V]
  have f1 : V.frozen? ⟨x + 1, 0, none⟩ = false := by simp [World.frozen?, hb1V]
  have d2 : V.cell? ⟨x + 2, 0, none⟩ = some (.int .i64 0) := by simp [World.cell?, hb2V]
  have f2 : V.frozen? ⟨x + 2, 0, none⟩ = false := by simp [World.frozen?, hb2V]
  have HF := Lib.hid (HB.out.2.2.1.go hkV)
  clear hkV hb1V hb2V
  go_wp2_with fail
  have hk9 := (HF.out.setCell (p := ⟨x + 1, 0, none⟩) (by rw [hx]; simp) (.int .i64 0)).setCell (p := ⟨x + 2, 0, none⟩) (by rw [hx]; simp) (.int .i64 6)
  have q1 : ((V.setCell ⟨x + 1, 0, none⟩ (.int .i64 0)).setCell ⟨x + 2, 0, none⟩ (.int .i64 6)).cell? ⟨x + 1, 0, none⟩ = some (.int .i64 0) := by
    rw [World.cell?_of_block (a := ⟨x + 1, 0, none⟩) (heap_setCell_other _ _ _ _ (by simp))]
    exact World.cell?_setCell_same' _ _ _ (by rw [d1]; rfl)
  have q2 : ((V.setCell ⟨x + 1, 0, none⟩ (.int .i64 0)).setCell ⟨x + 2, 0, none⟩ (.int .i64 6)).cell? ⟨x + 2, 0, none⟩ = some (.int .i64 6) := World.cell?_setCell_same' _ _ _ (by
    rw [World.cell?_of_block (a := ⟨x + 2, 0, none⟩) (heap_setCell_other _ _ _ _ (by simp)), d2]; rfl)
  obtain ⟨W9, hW9⟩ : ∃ W9, (V.setCell ⟨x + 1, 0, none⟩ (.int .i64 0)).setCell ⟨x + 2, 0, none⟩ (.int .i64 6) = W9 := ⟨_, rfl⟩
  rw [hW9] at hk9 q1 q2 ⊢
  clear hW9
  refine leaves_cons (f := 92) (args := #[.pointer (some ⟨x + 1, 0, none⟩), .pointer (some ⟨x + 2, 0, none⟩)]) (by simp) (by simp [go_sem]) ?_
  refine (trAdd1 _ _ _).mono ?_
  rintro e u' w'' ⟨rfl, rfl, rfl⟩
  exact ⟨_, results_intE rfl _ _ (x + 1) (x + 2) _ _ rfl rfl q1 q2, rfl, hk9⟩

end Go.Proofs.Ytdbohcdjamhdjaa
/- Package tree's leads: toRoot, toChild, fits. -/
set_option linter.unusedVariables false
namespace Go.Proofs.Ytdbohcdjamhdjaa
open Go.RowKit

/-- A lead as a value. -/
def leadV (page : Nat) (root : Bool) (lv : Int) (low high : Nat) : Value := .agg #[.int .i64 (page : Int), .bool root, .int .i64 lv, .int .u64 (low : Int), .int .u64 (high : Int)]
/-- A lead, boxed. -/
def BoxD (x page : Nat) (root : Bool) (lv : Int) (low high : Nat) (W : World) : Prop := W.heap[x]? = some (.cells #[.int .i64 (page : Int), .bool root, .int .i64 lv, .int .u64 (low : Int), .int .u64 (high : Int)] 111 (0, 0))

theorem results_lead {fn : Func} {p : Tmp} (h : fn.results = #[.cell p 111]) (tmps : Array Value) (w : World) (x page : Nat) (root : Bool) (lv : Int) (low high : Nat)
    (hp : tmps.getD p undef = .pointer (some ⟨x, 0, none⟩)) (hb : BoxD x page root lv low high w) : (results fn tmps).run Try.prog w = .ok (leadV page root lv low high) w := by
  have c0 : w.cell? ⟨x, 0, none⟩ = some (.int .i64 (page : Int)) := by simp [World.cell?, show w.heap[x]? = _ from hb]
  have c1 : w.cell? ⟨x, 1, none⟩ = some (.bool root) := by simp [World.cell?, show w.heap[x]? = _ from hb]
  have c2 : w.cell? ⟨x, 2, none⟩ = some (.int .i64 lv) := by simp [World.cell?, show w.heap[x]? = _ from hb]
  have c3 : w.cell? ⟨x, 3, none⟩ = some (.int .u64 (low : Int)) := by simp [World.cell?, show w.heap[x]? = _ from hb]
  have c4 : w.cell? ⟨x, 4, none⟩ = some (.int .u64 (high : Int)) := by simp [World.cell?, show w.heap[x]? = _ from hb]
  have hp' : tmps[p]?.getD undef = .pointer (some ⟨x, 0, none⟩) := by simpa using hp
  simp [results, h, hp', asAddr, c0, c1, c2, c3, c4, leadV, go_sem]

theorem trToRoot (page : Nat) (w : World) :
    Calls Try.prog 46 #[.int .i64 (page : Int)] w fun e w' => e = .returned (leadV page true 0 0 18446744073709551615) ∧ KeptIn (· < w.heap.size) w w' := by
  go_enter Try.func46, Try.ntmps46
  go_wp2_with fail
  refine bodyPost_ret (results_lead rfl _ _ w.heap.size page true 0 0 18446744073709551615 rfl (heap_alloc_new _ _)) rfl ?_
  exact ⟨rfl, (KeptIn.refl _ w).alloc (fun _ h => h) _⟩

theorem to_nums (i n : Nat) (hi : i < n) (hn : n ≤ 1000) : wrap64 ((i : Int) + 1) = ((i + 1 : Nat) : Int) ∧ IntKind.i64.wrap ((i : Int) + 1) = ((i + 1 : Nat) : Int) ∧ (0 : Int) ≤ (i : Int) ∧ (i : Int) < (n : Int) := by
  refine ⟨by unfold wrap64; omega, by rw [IntKind.wrap_i64]; omega, by omega, by omega⟩

/-- Where a lead's keys end. -/
def highOf (ps : Pairs) (i high : Nat) : Nat := if i + 1 < ps.length then keyAt ps (i + 1) - 1 else high

theorem to_last (i n : Nat) (h : i + 1 < n) : (i : Int) + 1 < (n : Int) ∧ ((i + 1 : Nat) : Int) < (n : Int) ∧ (0 : Int) ≤ ((i + 1 : Nat) : Int) := by omega
theorem to_last' (i j n : Nat) (hj : i + 1 = j) (h : ¬ i + 1 < n) : ¬ ((j : Int) < (n : Int)) ∧ (n : Int) ≤ (j : Int) ∧ ¬ j < n := by omega
theorem to_lv (lv : Nat) (h : 1 ≤ lv ∧ lv ≤ 7) : ((lv : Int) - 1) = ((lv - 1 : Nat) : Int) ∧ wrap64 ((lv : Int) - 1) = ((lv - 1 : Nat) : Int) ∧ IntKind.i64.wrap ((lv : Int) - 1) = ((lv - 1 : Nat) : Int) := by
  refine ⟨by omega, by unfold wrap64; omega, by rw [IntKind.wrap_i64]; omega⟩
theorem to_page (v : Nat) (h : v ≤ 511) : IntKind.i64.wrap (v : Int) = (v : Int) ∧ wrap64 (v : Int) = (v : Int) := ⟨by rw [IntKind.wrap_i64]; omega, by unfold wrap64; omega⟩
theorem to_sub (k : Nat) (h : 1 ≤ k) (h2 : k < 18446744073709551616) : IntKind.u64.wrap ((k : Int) - 1) = ((k - 1 : Nat) : Int) := by
  rw [IntKind.wrap_u64]; omega

section
variable {x page : Nat} {root : Bool} {lv : Int} {low high : Nat} {W W' : World}
theorem BoxD.c0 (h : BoxD x page root lv low high W) : W.cell? ⟨x, 0, none⟩ = some (.int .i64 (page : Int)) := by simp [World.cell?, show W.heap[x]? = _ from h]
theorem BoxD.c1 (h : BoxD x page root lv low high W) : W.cell? ⟨x, 1, none⟩ = some (.bool root) := by simp [World.cell?, show W.heap[x]? = _ from h]
theorem BoxD.c2 (h : BoxD x page root lv low high W) : W.cell? ⟨x, 2, none⟩ = some (.int .i64 lv) := by simp [World.cell?, show W.heap[x]? = _ from h]
theorem BoxD.c3 (h : BoxD x page root lv low high W) : W.cell? ⟨x, 3, none⟩ = some (.int .u64 (low : Int)) := by simp [World.cell?, show W.heap[x]? = _ from h]
theorem BoxD.c4 (h : BoxD x page root lv low high W) : W.cell? ⟨x, 4, none⟩ = some (.int .u64 (high : Int)) := by simp [World.cell?, show W.heap[x]? = _ from h]
theorem BoxD.f0 (h : BoxD x page root lv low high W) : W.frozen? ⟨x, 0, none⟩ = false := by simp [World.frozen?, show W.heap[x]? = _ from h]
theorem BoxD.f1 (h : BoxD x page root lv low high W) : W.frozen? ⟨x, 1, none⟩ = false := by simp [World.frozen?, show W.heap[x]? = _ from h]
theorem BoxD.f2 (h : BoxD x page root lv low high W) : W.frozen? ⟨x, 2, none⟩ = false := by simp [World.frozen?, show W.heap[x]? = _ from h]
theorem BoxD.f3 (h : BoxD x page root lv low high W) : W.frozen? ⟨x, 3, none⟩ = false := by simp [World.frozen?, show W.heap[x]? = _ from h]
theorem BoxD.f4 (h : BoxD x page root lv low high W) : W.frozen? ⟨x, 4, none⟩ = false := by simp [World.frozen?, show W.heap[x]? = _ from h]
theorem BoxD.lt (h : BoxD x page root lv low high W) : x < W.heap.size := (Array.getElem?_eq_some_iff.1 h).1
theorem BoxD.kept {X : Nat → Prop} (h : BoxD x page root lv low high W) (hk : KeptIn X W W') (hX : X x) : BoxD x page root lv low high W' := (hk.block x hX).trans h
theorem BoxD.new (w : World) (page : Nat) (root : Bool) (lv : Int) (low high : Nat) : BoxD w.heap.size page root lv low high (w.alloc (.cells #[.int .i64 (page : Int), .bool root, .int .i64 lv, .int .u64 (low : Int), .int .u64 (high : Int)] 111)) := heap_alloc_new w _
theorem BoxD.set {page' : Nat} {root' : Bool} {lv' : Int} {low' high' : Nat} (h : BoxD x page root lv low high W) :
    BoxD x page' root' lv' low' high' (((((W.setCell ⟨x, 0, none⟩ (.int .i64 (page' : Int))).setCell ⟨x, 1, none⟩ (.bool root')).setCell ⟨x, 2, none⟩ (.int .i64 lv')).setCell ⟨x, 3, none⟩ (.int .u64 (low' : Int))).setCell ⟨x, 4, none⟩ (.int .u64 (high' : Int))) := by
  have h1 : (W.setCell ⟨x, 0, none⟩ (.int .i64 (page' : Int))).heap[x]? = _ := heap_setCell_same _ _ _ _ _ _ h
  have h2 : ((W.setCell ⟨x, 0, none⟩ (.int .i64 (page' : Int))).setCell ⟨x, 1, none⟩ (.bool root')).heap[x]? = _ := heap_setCell_same _ _ _ _ _ _ h1
  have h3 : (((W.setCell ⟨x, 0, none⟩ (.int .i64 (page' : Int))).setCell ⟨x, 1, none⟩ (.bool root')).setCell ⟨x, 2, none⟩ (.int .i64 lv')).heap[x]? = _ := heap_setCell_same _ _ _ _ _ _ h2
  have h4 : ((((W.setCell ⟨x, 0, none⟩ (.int .i64 (page' : Int))).setCell ⟨x, 1, none⟩ (.bool root')).setCell ⟨x, 2, none⟩ (.int .i64 lv')).setCell ⟨x, 3, none⟩ (.int .u64 (low' : Int))).heap[x]? = _ := heap_setCell_same _ _ _ _ _ _ h3
  have h5 : (((((W.setCell ⟨x, 0, none⟩ (.int .i64 (page' : Int))).setCell ⟨x, 1, none⟩ (.bool root')).setCell ⟨x, 2, none⟩ (.int .i64 lv')).setCell ⟨x, 3, none⟩ (.int .u64 (low' : Int))).setCell ⟨x, 4, none⟩ (.int .u64 (high' : Int))).heap[x]? = _ := heap_setCell_same _ _ _ _ _ _ h4
  exact h5.trans rfl
end

set_option maxRecDepth 100000 in
theorem trToChild (lv : Nat) (a : Option Addr) (cap : Nat) (ps : Pairs) (i high : Nat) (w : World) (h : IsPs w a ps) (hr : rises ps = true) (hi : i < ps.length) (hl : ps.length ≤ 1000) (hlv : 1 ≤ lv ∧ lv ≤ 7) (hv : valAt ps i ≤ 511) :
    Calls Try.prog 50 #[leafV (lv : Int) a ps.length cap, .int .i64 (i : Int), .int .u64 (high : Int)] w fun e w' => e = .returned (leadV (valAt ps i) false ((lv : Int) - 1) (keyAt ps i) (highOf ps i high)) ∧ KeptIn (· < w.heap.size) w w' := by
  obtain ⟨b, off, rfl, hb, hc⟩ := h.cells (Nat.lt_of_le_of_lt (Nat.zero_le _) hi)
  obtain ⟨e1, e2⟩ := hc i hi
  have HC := Lib.hid hc
  have HF := Lib.hid h.fits
  have HR := Lib.hid hr
  obtain ⟨n, hn⟩ : ∃ n, ps.length = n := ⟨_, rfl⟩
  have HN := Lib.hid hn
  obtain ⟨hh, hhe⟩ : ∃ hh, highOf ps i high = hh := ⟨_, rfl⟩
  have HHE := Lib.hid hhe
  obtain ⟨k, hk⟩ : ∃ k, keyAt ps i = k := ⟨_, rfl⟩
  obtain ⟨v, hve⟩ : ∃ v, valAt ps i = v := ⟨_, rfl⟩
  rw [hn] at hi hl
  rw [hk] at e1
  rw [hve] at e2 hv
  rw [hn, hhe, hk, hve]
  obtain ⟨n1, n2, n3, n4⟩ := to_nums i n hi hl
  have HI := Lib.hid hi
  obtain ⟨l1, l2, l3⟩ := to_lv lv hlv
  obtain ⟨v1, v2⟩ := to_page v hv
  rw [l1]
  obtain ⟨l, hle⟩ : ∃ l, lv - 1 = l := ⟨_, rfl⟩
  rw [hle] at l2 l3 ⊢
  obtain ⟨W, hW⟩ : ∃ W, (w.alloc (.cells #[.int .i64 (lv : Int), .slice (some ⟨b, off, none⟩) n cap] 27)).alloc (.cells #[.int .i64 0, .bool false, .int .i64 0, .int .u64 0, .int .u64 0] 111) = W := ⟨_, rfl⟩
  have hkW : KeptIn (· < w.heap.size) w W := by rw [← hW]; exact ((KeptIn.refl _ w).alloc (fun _ h => h) _).alloc (fun _ h => h) _
  obtain ⟨x, hx⟩ : ∃ x, w.heap.size = x := ⟨_, rfl⟩
  have hbl : BoxL x (lv : Int) (some ⟨b, off, none⟩) n cap W := by
    rw [← hW, ← hx]
    exact (BoxL.new w (lv : Int) (some ⟨b, off, none⟩) n cap).kept ((KeptIn.refl _ _).alloc (fun _ h => h) _) (by simp)
  have hbd : BoxD (x + 1) 0 false 0 0 0 W := by
    rw [← hW, ← hx, show w.heap.size + 1 = (w.alloc (.cells #[.int .i64 (lv : Int), .slice (some ⟨b, off, none⟩) n cap] 27)).heap.size by simp]
    exact heap_alloc_new _ _
  have HWB := Lib.hid (And.intro hkW (And.intro hbl hbd))
  have q0 := hbl.c0
  have q1 := hbl.c1
  have p0 := hbd.c0
  have p1 := hbd.c1
  have p2 := hbd.c2
  have p3 := hbd.c3
  have p4 := hbd.c4
  have f0 := hbd.f0
  have f1 := hbd.f1
  have f2 := hbd.f2
  have f3 := hbd.f3
  have f4 := hbd.f4
  have e1 := (World.cell?_of_block (a := ⟨b, off + i * 2, none⟩) (hkW.block b hb)).trans e1
  have e2 := (World.cell?_of_block (a := ⟨b, off + i * 2 + 1, none⟩) (hkW.block b hb)).trans e2
  have HB := Lib.hid hb
  unfold leafV
  clear hkW hbl hbd hb
  clear hc hr hn hhe hk hve h hi hl hv l1 hlv hle
  by_cases hlast : i + 1 < n
  · obtain ⟨e3, _⟩ := HC.out (i + 1) (by rw [HN.out]; exact hlast)
    replace e3 := (World.cell?_of_block (a := ⟨b, off + (i + 1) * 2, none⟩) (HWB.out.1.block b HB.out)).trans e3
    have f3 := (HF.out.at (i := i + 1) (by rw [HN.out]; exact hlast)).1
    have f4 : 1 ≤ keyAt ps (i + 1) := Nat.lt_of_le_of_lt (Nat.zero_le _) (rises_lt HR.out (Nat.lt_succ_self i) (by rw [HN.out]; exact hlast))
    obtain ⟨t1, t2, t3⟩ := to_last i n hlast
    have u1 := to_sub _ f4 f3
    have hhv : keyAt ps (i + 1) - 1 = hh := by rw [← HHE.out, highOf, HN.out, if_pos hlast]
    rw [hhv] at u1
    obtain ⟨k2, hk2⟩ : ∃ k2, keyAt ps (i + 1) = k2 := ⟨_, rfl⟩
    obtain ⟨j, hj⟩ : ∃ j, i + 1 = j := ⟨_, rfl⟩
    rw [hk2] at e3 u1
    rw [hj] at e3 t2 t3 n1 n2
    clear hk2 hhv f3 f4 hj hlast
    go_enter Try.func50, Try.ntmps50
    go_wp2_with fail
    go_region
    have hset := HWB.out.2.2.set (page' := v) (root' := false) (lv' := (l : Int)) (low' := k) (high' := hh)
    have hkF := ((((HWB.out.1.setCell (p := ⟨x + 1, 0, none⟩) (by rw [hx]; simp) (.int .i64 (v : Int))).setCell (p := ⟨x + 1, 1, none⟩) (by rw [hx]; simp) (.bool false)).setCell (p := ⟨x + 1, 2, none⟩) (by rw [hx]; simp) (.int .i64 (l : Int))).setCell (p := ⟨x + 1, 3, none⟩) (by rw [hx]; simp) (.int .u64 (k : Int))).setCell (p := ⟨x + 1, 4, none⟩) (by rw [hx]; simp) (.int .u64 (hh : Int))
    obtain ⟨V9, hV9⟩ : ∃ V9, ((((W.setCell ⟨x + 1, 0, none⟩ (.int .i64 (v : Int))).setCell ⟨x + 1, 1, none⟩ (.bool false)).setCell ⟨x + 1, 2, none⟩ (.int .i64 (l : Int))).setCell ⟨x + 1, 3, none⟩ (.int .u64 (k : Int))).setCell ⟨x + 1, 4, none⟩ (.int .u64 (hh : Int)) = V9 := ⟨_, rfl⟩
    rw [hV9] at hset hkF ⊢
    have hset' : BoxD (x + 1) v false (l : Int) k hh V9.drew := hset
    go_wp2_with fail
    refine bodyPost_ret (results_lead rfl _ _ (x + 1) v false (l : Int) k hh rfl hset') rfl ?_
    exact ⟨rfl, hkF.drew⟩
  · have hhv : high = hh := by rw [← HHE.out, highOf, HN.out, if_neg hlast]
    subst hhv
    obtain ⟨j, hj⟩ : ∃ j, i + 1 = j := ⟨_, rfl⟩
    obtain ⟨t1, t2, t3⟩ := to_last' i j n hj hlast
    rw [hj] at n1 n2
    clear hlast hj
    go_enter Try.func50, Try.ntmps50
    go_wp2_with fail
    go_region
    have hset := HWB.out.2.2.set (page' := v) (root' := false) (lv' := (l : Int)) (low' := k) (high' := high)
    have hkF := ((((HWB.out.1.setCell (p := ⟨x + 1, 0, none⟩) (by rw [hx]; simp) (.int .i64 (v : Int))).setCell (p := ⟨x + 1, 1, none⟩) (by rw [hx]; simp) (.bool false)).setCell (p := ⟨x + 1, 2, none⟩) (by rw [hx]; simp) (.int .i64 (l : Int))).setCell (p := ⟨x + 1, 3, none⟩) (by rw [hx]; simp) (.int .u64 (k : Int))).setCell (p := ⟨x + 1, 4, none⟩) (by rw [hx]; simp) (.int .u64 (high : Int))
    obtain ⟨V9, hV9⟩ : ∃ V9, ((((W.setCell ⟨x + 1, 0, none⟩ (.int .i64 (v : Int))).setCell ⟨x + 1, 1, none⟩ (.bool false)).setCell ⟨x + 1, 2, none⟩ (.int .i64 (l : Int))).setCell ⟨x + 1, 3, none⟩ (.int .u64 (k : Int))).setCell ⟨x + 1, 4, none⟩ (.int .u64 (high : Int)) = V9 := ⟨_, rfl⟩
    rw [hV9] at hset hkF ⊢
    have hset' : BoxD (x + 1) v false (l : Int) k high V9.drew := hset
    go_wp2_with fail
    refine bodyPost_ret (results_lead rfl _ _ (x + 1) v false (l : Int) k high rfl hset') rfl ?_
    exact ⟨rfl, hkF.drew⟩

end Go.Proofs.Ytdbohcdjamhdjaa
/- Package tree's leads: fits, where a node keeps to what it must. -/
set_option linter.unusedVariables false
namespace Go.Proofs.Ytdbohcdjamhdjaa
open Go.RowKit

/-- What a root keeps to. -/
def RootFit (nlv : Nat) (ps : Pairs) : Prop := goodN (nlv : Int) ps = true ∧ 0 < ps.length ∧ (nlv = 0 ∨ 1 < ps.length)
/-- What any other node keeps to. -/
def KidFit (lv : Int) (low high : Nat) (nlv : Nat) (ps : Pairs) : Prop := goodN (nlv : Int) ps = true ∧ 0 < ps.length ∧ (nlv : Int) = lv ∧ keyAt ps 0 = low ∧ keyAt ps (ps.length - 1) ≤ high
/-- What a lead asks of its node. -/
def FitOk (root : Bool) (lv : Int) (low high : Nat) (nlv : Nat) (ps : Pairs) : Prop := if root then RootFit nlv ps else KidFit lv low high nlv ps


theorem ft_len (n : Nat) (h0 : 0 < n) : ¬ ((n : Int) = 0) ∧ ((n : Int) == 0) = false ∧ ¬ (n = 0) := by
  refine ⟨by omega, ?_, by omega⟩
  rw [beq_eq_false_iff_ne]; omega

set_option maxRecDepth 100000 in
theorem trFitsRoot (page : Nat) (lv : Int) (low high nlv : Nat) (a : Option Addr) (cap : Nat) (ps : Pairs) (w : World) (h : IsPs w a ps) (hf : RootFit nlv ps) :
    Calls Try.prog 70 #[leadV page true lv low high, leafV (nlv : Int) a ps.length cap] w fun e w' => e = .returned (.bool true) ∧ KeptIn (· < w.heap.size) w w' := by
  obtain ⟨h1, h2, h3⟩ := hf
  have HG := Lib.hid fun V (hk : KeptIn (· < w.heap.size) w V) => lfGood (nlv : Int) a cap ps V (h.old hk)
  simp only [h1] at HG
  have hm : (ps.length : Int) ≤ 9223372036854775807 := by have := h.len; unfold maxLen at this; omega
  obtain ⟨n, hn⟩ : ∃ n, ps.length = n := ⟨_, rfl⟩
  unfold leafV leadV at *
  rw [hn] at h2 h3 hm HG ⊢
  obtain ⟨z1, z2, z3⟩ := ft_len n h2
  obtain ⟨L, hL⟩ : ∃ L : Int, (nlv : Int) = L := ⟨_, rfl⟩
  have h3' : (L == 0) = true ∨ (L == 0) = false ∧ (1 : Int) < (n : Int) := by
    rcases h3 with h3 | h3
    · exact .inl (by rw [← hL, h3]; rfl)
    · cases hb : (L == 0)
      · exact .inr ⟨rfl, by omega⟩
      · exact .inl rfl
  rw [hL] at HG ⊢
  clear h h1 hn h3 hL
  obtain ⟨W, hW⟩ : ∃ W, (w.alloc (.cells #[.int .i64 (page : Int), .bool true, .int .i64 lv, .int .u64 (low : Int), .int .u64 (high : Int)] 111)).alloc (.cells #[.int .i64 L, .slice a n cap] 27) = W := ⟨_, rfl⟩
  have hkW : KeptIn (· < w.heap.size) w W := by rw [← hW]; exact ((KeptIn.refl _ w).alloc (fun _ h => h) _).alloc (fun _ h => h) _
  obtain ⟨x, hx⟩ : ∃ x, w.heap.size = x := ⟨_, rfl⟩
  have hbd : BoxD x page true lv low high W := by
    rw [← hW, ← hx]
    exact (BoxD.new w page true lv low high).kept ((KeptIn.refl _ _).alloc (fun _ h => h) _) (by simp)
  have hbl : BoxL (x + 1) L a n cap W := by
    rw [← hW, ← hx, show w.heap.size + 1 = (w.alloc (.cells #[.int .i64 (page : Int), .bool true, .int .i64 lv, .int .u64 (low : Int), .int .u64 (high : Int)] 111)).heap.size by simp]
    exact heap_alloc_new _ _
  have CG := Lib.hid (HG.out W hkW)
  have c0 := hbl.c0
  have c1 := hbl.c1
  have HWB := Lib.hid (And.intro hkW (And.intro hbd hbl))
  clear hkW hbd hbl HG
  rcases h3' with h3 | ⟨h3, h4⟩
  · go_enter Try.func70, Try.ntmps70
    go_wp2_with (go_at_call 88; refine CG.out.mono ?_)
    rintro e V ⟨rfl, hk⟩
    have hbl := HWB.out.2.2.kept hk HWB.out.2.2.lt
    have hbd := HWB.out.2.1.kept hk HWB.out.2.1.lt
    have q0 := hbl.c0
    have q1 := hbl.c1
    have p1 := hbd.c1
    have HK := Lib.hid (HWB.out.1.go hk)
    clear hbl hbd hk CG HWB c0 c1
    go_wp2_with fail
    go_ret
    exact ⟨rfl, HK.out⟩
  · go_enter Try.func70, Try.ntmps70
    go_wp2_with (go_at_call 88; refine CG.out.mono ?_)
    rintro e V ⟨rfl, hk⟩
    have hbl := HWB.out.2.2.kept hk HWB.out.2.2.lt
    have hbd := HWB.out.2.1.kept hk HWB.out.2.1.lt
    have q0 := hbl.c0
    have q1 := hbl.c1
    have p1 := hbd.c1
    have HK := Lib.hid (HWB.out.1.go hk)
    clear hbl hbd hk CG HWB c0 c1
    go_wp2_with fail
    go_ret
    exact ⟨rfl, HK.out⟩

theorem ft_last (n j : Nat) (h0 : 0 < n) (hn : n ≤ 1000) (hj : n - 1 = j) : wrap64 ((n : Int) - 1) = (j : Int) ∧ IntKind.i64.wrap ((n : Int) - 1) = (j : Int) ∧ (0 : Int) ≤ (j : Int) ∧ (j : Int) < (n : Int) ∧ (0 : Int) < (n : Int) := by
  refine ⟨by unfold wrap64; omega, by rw [IntKind.wrap_i64]; omega, by omega, by omega, by omega⟩

set_option maxRecDepth 100000 in
theorem trFitsKid (page : Nat) (lv : Int) (low high nlv : Nat) (a : Option Addr) (cap : Nat) (ps : Pairs) (w : World) (h : IsPs w a ps) (hf : KidFit lv low high nlv ps) :
    Calls Try.prog 70 #[leadV page false lv low high, leafV (nlv : Int) a ps.length cap] w fun e w' => e = .returned (.bool true) ∧ KeptIn (· < w.heap.size) w w' := by
  obtain ⟨h1, h2, h3, h4, h5⟩ := hf
  have hl15 := (good_parts h1).2.2
  have HG := Lib.hid fun V (hk : KeptIn (· < w.heap.size) w V) => lfGood (nlv : Int) a cap ps V (h.old hk)
  simp only [h1] at HG
  obtain ⟨b, off, rfl, hb, hc⟩ := h.cells h2
  obtain ⟨n, hn⟩ : ∃ n, ps.length = n := ⟨_, rfl⟩
  obtain ⟨j, hj⟩ : ∃ j, n - 1 = j := ⟨_, rfl⟩
  obtain ⟨s1, s2, s3, s4, s5⟩ := ft_last n j (by rw [← hn]; exact h2) (by rw [← hn]; exact Nat.le_trans hl15 (by decide)) hj
  obtain ⟨e0, _⟩ := hc 0 h2
  obtain ⟨e1, _⟩ := hc j (by rw [hn]; rw [hn] at h2; exact hj ▸ Nat.sub_lt h2 Nat.one_pos)
  rw [hn, hj] at h5
  obtain ⟨k, hk⟩ : ∃ k, keyAt ps j = k := ⟨_, rfl⟩
  rw [hk] at h5 e1
  rw [h4] at e0
  have t1 : (k : Int) ≤ (high : Int) := Int.ofNat_le.2 h5
  have hm : (ps.length : Int) ≤ 9223372036854775807 := by have := h.len; unfold maxLen at this; omega
  unfold leafV leadV at *
  rw [h3] at HG ⊢
  rw [hn] at h2 hm HG ⊢
  obtain ⟨z1, z2, z3⟩ := ft_len n h2
  have HE := Lib.hid (And.intro e0 (And.intro e1 hb))
  clear h h1 hn h3 h4 h5 hc hk hl15 hj e0 e1 hb h2
  obtain ⟨W, hW⟩ : ∃ W, (w.alloc (.cells #[.int .i64 (page : Int), .bool false, .int .i64 lv, .int .u64 (low : Int), .int .u64 (high : Int)] 111)).alloc (.cells #[.int .i64 lv, .slice (some ⟨b, off, none⟩) n cap] 27) = W := ⟨_, rfl⟩
  have hkW : KeptIn (· < w.heap.size) w W := by rw [← hW]; exact ((KeptIn.refl _ w).alloc (fun _ h => h) _).alloc (fun _ h => h) _
  obtain ⟨x, hx⟩ : ∃ x, w.heap.size = x := ⟨_, rfl⟩
  have hbd : BoxD x page false lv low high W := by
    rw [← hW, ← hx]
    exact (BoxD.new w page false lv low high).kept ((KeptIn.refl _ _).alloc (fun _ h => h) _) (by simp)
  have hbl : BoxL (x + 1) lv (some ⟨b, off, none⟩) n cap W := by
    rw [← hW, ← hx, show w.heap.size + 1 = (w.alloc (.cells #[.int .i64 (page : Int), .bool false, .int .i64 lv, .int .u64 (low : Int), .int .u64 (high : Int)] 111)).heap.size by simp]
    exact heap_alloc_new _ _
  have CG := Lib.hid (HG.out W hkW)
  have c0 := hbl.c0
  have c1 := hbl.c1
  have HWB := Lib.hid (And.intro hkW (And.intro hbd hbl))
  clear hkW hbd hbl HG
  go_enter Try.func70, Try.ntmps70
  go_wp2_with (go_at_call 88; refine CG.out.mono ?_)
  rintro e V ⟨rfl, hk⟩
  have hbl := HWB.out.2.2.kept hk HWB.out.2.2.lt
  have hbd := HWB.out.2.1.kept hk HWB.out.2.1.lt
  have hkw := HWB.out.1.go hk
  have hbV := hkw.block b HE.out.2.2
  have q0 := hbl.c0
  have q1 := hbl.c1
  have p1 := hbd.c1
  have p2 := hbd.c2
  have p3 := hbd.c3
  have p4 := hbd.c4
  have e0 := (World.cell?_of_block (a := ⟨b, off + 0 * 2, none⟩) hbV).trans HE.out.1
  rw [Nat.zero_mul, Nat.add_zero] at e0
  have e1 := (World.cell?_of_block (a := ⟨b, off + j * 2, none⟩) hbV).trans HE.out.2.1
  have HK := Lib.hid hkw
  clear hbl hbd hk CG HWB c0 c1 hkw hbV
  go_wp2_with fail
  go_quiet (fail)
  go_wp2_with fail
  go_ret
  exact ⟨rfl, HK.out.drewN _⟩

end Go.Proofs.Ytdbohcdjamhdjaa
/- Package tree's leads: read, where the node keeps to what it must. -/
set_option linter.unusedVariables false
namespace Go.Proofs.Ytdbohcdjamhdjaa
open Go.RowKit

theorem trFits (page : Nat) (root : Bool) (lv : Int) (low high nlv : Nat) (a : Option Addr) (cap : Nat) (ps : Pairs) (w : World) (h : IsPs w a ps) (hf : FitOk root lv low high nlv ps) :
    Calls Try.prog 70 #[leadV page root lv low high, leafV (nlv : Int) a ps.length cap] w fun e w' => e = .returned (.bool true) ∧ KeptIn (· < w.heap.size) w w' := by
  cases root with
  | true => exact trFitsRoot page lv low high nlv a cap ps w h hf
  | false => exact trFitsKid page lv low high nlv a cap ps w h hf

set_option maxRecDepth 100000 in
theorem trLeadRead {w : World} {s room : Nat} {N : List Nd} {D : Nat → Prop} (h : IsSh w s room N D) (i : Nat) (hi : i < N.length) (root : Bool) (lv : Int) (low high : Nat) (hf : FitOk root lv low high N[i].1 N[i].2) :
    Calls Try.prog 47 #[leadV (i + 1) root lv low high, pgV s] w (RdS w (N[i].1 : Int) N[i].2) := by
  obtain ⟨p, hp⟩ : ∃ p, i + 1 = p := ⟨_, rfl⟩
  obtain ⟨W, hW⟩ : ∃ W, (w.alloc (.cells #[.int .i64 (p : Int), .bool root, .int .i64 lv, .int .u64 (low : Int), .int .u64 (high : Int)] 111)).alloc (.cells #[.int .i64 0, .slice none 0 0] 27) = W := ⟨_, rfl⟩
  have hkW : KeptIn (· < w.heap.size) w W := by rw [← hW]; exact ((KeptIn.refl _ w).alloc (fun _ h => h) _).alloc (fun _ h => h) _
  have C := trRead (h.old hkW) i hi
  obtain ⟨nlv, hlv⟩ : ∃ nlv, N[i].1 = nlv := ⟨_, rfl⟩
  obtain ⟨ps, hpe⟩ : ∃ ps, N[i].2 = ps := ⟨_, rfl⟩
  rw [hlv, hpe] at hf
  rw [hp, hlv, hpe] at C
  rw [hp, hlv, hpe]
  obtain ⟨x, hx⟩ : ∃ x, w.heap.size = x := ⟨_, rfl⟩
  have hbd : BoxD x p root lv low high W := by
    rw [← hW, ← hx]
    exact (BoxD.new w p root lv low high).kept ((KeptIn.refl _ _).alloc (fun _ h => h) _) (by simp)
  have hbl : BoxL (x + 1) 0 none 0 0 W := by
    rw [← hW, ← hx, show w.heap.size + 1 = (w.alloc (.cells #[.int .i64 (p : Int), .bool root, .int .i64 lv, .int .u64 (low : Int), .int .u64 (high : Int)] 111)).heap.size by simp]
    exact heap_alloc_new _ _
  have p0 := hbd.c0
  have HC := Lib.hid C
  have HFIT := Lib.hid hf
  have HWB := Lib.hid (And.intro hkW (And.intro hbd hbl))
  obtain ⟨m, hm⟩ : ∃ m, ps.length = m := ⟨_, rfl⟩
  have HM := Lib.hid hm
  unfold leadV pgV at *
  clear C hf hkW hbd hbl h hlv hpe hp hi hm
  go_enter Try.func47, Try.ntmps47
  go_wp2_with (go_at_call 69; refine HC.out.mono ?_)
  rintro e V ⟨g, cg, rfl, hps, hg, hkV, hty⟩
  rw [HM.out]
  unfold leafV
  obtain ⟨U, hU⟩ : ∃ U, V.alloc (.cells #[.int .i64 (nlv : Int), .slice (some ⟨g, 0, none⟩) m cg] 27) = U := ⟨_, rfl⟩
  obtain ⟨y, hy⟩ : ∃ y, V.heap.size = y := ⟨_, rfl⟩
  have hkU : KeptIn (· < V.heap.size) V U := by rw [← hU]; exact (KeptIn.refl _ V).alloc (fun _ h => h) _
  have hby : BoxL y (nlv : Int) (some ⟨g, 0, none⟩) m cg U := by rw [← hU, ← hy]; exact BoxL.new V _ _ _ _
  have hkWU : KeptIn (· < W.heap.size) W U := hkV.go hkU
  have hpsU := hps.old hkU
  have hbdU := HWB.out.2.1.kept hkWU HWB.out.2.1.lt
  have hblU := HWB.out.2.2.kept hkWU HWB.out.2.2.lt
  have CF := trFits p root lv low high nlv (some ⟨g, 0, none⟩) cg ps U hpsU HFIT.out
  unfold leafV leadV at CF
  rw [HM.out] at CF
  have q0 := hby.c0
  have q1 := hby.c1
  have d0 := hbdU.c0
  have d1 := hbdU.c1
  have d2 := hbdU.c2
  have d3 := hbdU.c3
  have d4 := hbdU.c4
  have HCF := Lib.hid CF
  have HTY := Lib.hid (hty.old hkU)
  have HQ := Lib.hid (And.intro hby (And.intro hblU (And.intro hpsU (And.intro hkWU hg))))
  clear hps hg hkV hkU hby hkWU hpsU hbdU hblU CF hty
  go_wp2_with (go_at_call 70; refine HCF.out.mono ?_)
  rintro e V2 ⟨rfl, hk2⟩
  have hb2 := HQ.out.1.kept hk2 HQ.out.1.lt
  have hr2 := HQ.out.2.1.kept hk2 HQ.out.2.1.lt
  have r0 := hb2.c0
  have r1 := hb2.c1
  have r2 := hr2.c0
  have r3 := hr2.f0
  have r4 := hr2.c1
  have r5 := hr2.f1
  have HTZ := Lib.hid (HTY.out.old hk2)
  have HR := Lib.hid (And.intro hr2 (And.intro (HQ.out.2.2.1.old hk2) (HQ.out.2.2.2.1.go hk2)))
  clear hb2 hr2 hk2
  go_wp2_with fail
  have hset := HR.out.1.set (lv' := (nlv : Int)) (a' := some ⟨g, 0, none⟩) (n' := m) (cap' := cg)
  have hwx : x ≤ W.heap.size := by rw [← hx]; exact HWB.out.1.size
  have hxg : x + 1 < g := Nat.lt_of_lt_of_le HWB.out.2.2.lt HQ.out.2.2.2.2
  have hps := psSet (psSet HR.out.2.1 ⟨x + 1, 0, none⟩ (.int .i64 (nlv : Int)) (fun p e => by cases e; exact Nat.ne_of_gt hxg)) ⟨x + 1, 1, none⟩ (.slice (some ⟨g, 0, none⟩) m cg) (fun p e => by cases e; exact Nat.ne_of_gt hxg)
  have hkx := ((HWB.out.1.go HR.out.2.2).setCell (p := ⟨x + 1, 0, none⟩) (by rw [hx]; simp) (.int .i64 (nlv : Int))).setCell (p := ⟨x + 1, 1, none⟩) (by rw [hx]; simp) (.slice (some ⟨g, 0, none⟩) m cg)
  refine bodyPost_ret (results_leaf rfl _ _ (x + 1) _ _ _ _ rfl hset) rfl ?_
  exact ⟨g, cg, by rw [HM.out]; rfl, hps, by rw [hx]; exact Nat.le_of_lt (Nat.lt_of_succ_lt hxg), hkx, (HTZ.out.set _ _ (Nat.ne_of_gt hxg)).set _ _ (Nat.ne_of_gt hxg)⟩

end Go.Proofs.Ytdbohcdjamhdjaa
