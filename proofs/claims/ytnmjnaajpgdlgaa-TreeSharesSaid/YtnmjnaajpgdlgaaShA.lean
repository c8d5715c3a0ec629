/- Pages in memory: package tree's Shelf: Add. -/
import Derived.Test.YtnmjnaajpgdlgaaSh8
import Derived.Deep.RegionLawGrows
set_option linter.unusedVariables false
namespace Go.Proofs.Ytnmjnaajpgdlgaa
open Go.RowKit

theorem lClip (b n cap : Nat) (hn : n ≤ cap) (hc : cap ≤ maxLen) (w : World) :
    Calls Try.prog 88 #[.slice (some ⟨b, 0, none⟩) n cap] w fun e w' => e = .returned (.slice (some ⟨b, 0, none⟩) n n) ∧ w' = w := by
  have h1 : (n : Int) ≤ (cap : Int) := by omega
  have h2 : (0 : Int) ≤ (n : Int) := by omega
  have h3 : (n : Int) ≤ (n : Int) := by omega
  have h4 : (n : Int) ≤ 9223372036854775807 := by unfold maxLen at hc; omega
  go_enter Try.func88, Try.ntmps88
  go_wp2
  go_ret
  exact ⟨by simp, rfl⟩
theorem lClipNil (w : World) :
    Calls Try.prog 88 #[.slice none 0 0] w fun e w' => e = .returned (.slice none 0 0) ∧ w' = w := by
  go_enter Try.func88, Try.ntmps88
  go_wp2
  go_ret
  exact ⟨rfl, rfl⟩
theorem run_min8 {P : Program} {w : World} (ts : Array TypeId) (t : TypeId) (k k' : IntKind) (x y : Int) : (Builtin.min_ ts t #[.int k x, .int k' y]).run P w = .ok (.int k (min x y)) w := by
  rw [run_min_int2]
  congr 2
  split <;> omega
attribute [local go_sem high] run_min8

/-- What Clip is asked for: the Shelf's list. -/
def ClipOk (la : Option Addr) (n cap : Nat) : Prop := (la = none ∧ n = 0 ∧ cap = 0) ∨ ∃ b, la = some ⟨b, 0, none⟩ ∧ n ≤ cap ∧ cap ≤ maxLen
theorem lClipOk {la : Option Addr} {n cap : Nat} (h : ClipOk la n cap) (w : World) : Calls Try.prog 88 #[.slice la n cap] w fun e w' => e = .returned (.slice la n n) ∧ w' = w := by
  rcases h with ⟨rfl, rfl, rfl⟩ | ⟨b, rfl, h1, h2⟩
  · exact lClipNil w
  · exact lClip b n cap h1 h2 w

/-- The cells of the Shelf's list, whatever they are. -/
def oldC (W : World) (la : Option Addr) (n : Nat) : List Value := match la with
  | none => []
  | some b => (List.range (n * 2)).map fun j => cellOf W (b.add j)

/-- A node was added: it is the last one; all other blocks than the Shelf's stand. -/
def AddS (w : World) (s room : Nat) (N : List Nd) (D : Nat → Prop) (nd : Nd) (e : Ending) (w' : World) : Prop :=
  ∃ D', e = .returned (.tuple #[.int .i64 ((N.length + 1 : Nat) : Int), .int .i64 0]) ∧ IsSh w' s room (N ++ [nd]) D' ∧ (∀ k, D' k → D k ∨ w.heap.size ≤ k) ∧ KeptIn (fun k => k < w.heap.size ∧ k ≠ s) w w'

theorem infoLeaf : (Try.prog.info? 66).map (fun i => (i.zero, i.size, i.bytes)) = some (some (.agg #[.int .i64 0, .slice none 0 0]), 2, 32) := by kernel_rfl

theorem oldC_len {la : Option Addr} {n cap : Nat} (h : ClipOk la n cap) (W : World) : (oldC W la n).length = n * 2 := by
  rcases h with ⟨rfl, rfl, rfl⟩ | ⟨b, rfl, h1, h2⟩
  · rfl
  · simp [oldC]
theorem clip_none {la : Option Addr} {n cap : Nat} (h : ClipOk la n cap) (e : la = none) : n = 0 ∧ n = 0 := by
  rcases h with ⟨_, rfl, _⟩ | ⟨b, rfl, _⟩
  · exact ⟨rfl, rfl⟩
  · cases e
/-- What the Shelf's list is made of. -/
def ListOk (w : World) (s : Nat) (N : List Nd) (D : Nat → Prop) (la : Option Addr) (n : Nat) : Prop :=
  0 < n → ∃ b, la = some ⟨b, 0, none⟩ ∧ D b ∧ b ≠ s ∧ ∀ i (h : i < N.length), NodeAt w (fun k => D k ∧ k ≠ s) b (i * 2) N[i]
theorem oldC_at {w V : World} {s : Nat} {N : List Nd} {D : Nat → Prop} {la : Option Addr} (h : ListOk w s N D la N.length) (hD : ∀ k, D k → k < w.heap.size) (hk : KeptIn (· < w.heap.size) w V) :
    ∀ b, la = some b → ∀ j u, (oldC V la N.length)[j]? = some u → V.cell? (b.add j) = some u := by
  rintro b rfl j u hu
  have hj : j < N.length * 2 := by
    have := (List.getElem?_eq_some_iff.1 hu).1
    simpa [oldC] using this
  obtain ⟨b', e, hb, hbs, hn⟩ := h (by omega)
  obtain rfl := Option.some.inj e
  have hu' : cellOf V ((⟨b', 0, none⟩ : Addr).add j) = u := by
    simp only [oldC, List.getElem?_map, List.getElem?_range hj, Option.map_some, Option.some.injEq] at hu
    exact hu
  rw [← hu']
  obtain ⟨a, cap, h1, h2, _⟩ := (hn (j / 2) (by omega)).kept (hk.mono fun k h => hD k h.1) ⟨hb, hbs⟩ fun _ h => h
  rw [addr_add, Nat.zero_add]
  rcases Nat.mod_two_eq_zero_or_one j with e | e
  · rw [show j / 2 * 2 = j by omega] at h1
    exact cellOf_eq h1
  · rw [show j / 2 * 2 + 1 = j by omega] at h2
    exact cellOf_eq h2

/-- The Shelf behind the append and the store. -/
theorem shAdded {w V w' : World} {s room gg cap' g cg lv : Nat} {N : List Nd} {D : Nat → Prop} {la : Option Addr} {ps : Pairs} {cap : Nat} (h : IsSh w s room N D) (hL : ListOk w s N D la N.length)
    (hs : V.heap[s]? = some (.cells #[.slice la N.length cap, .int .i64 (room : Int)] 28 (0, 0))) (hk : KeptIn (· < w.heap.size) w V) (hg : V.grownBy w' none)
    (hown : w'.ownsRow V.heap.size 66 2 (.slice (some ⟨gg, 0, none⟩) (N.length + 1) cap') (N.length + 1) (oldC V la N.length ++ [.int .i64 (lv : Int), .slice (some ⟨g, 0, none⟩) ps.length cg]))
    (hps : IsPs V (some ⟨g, 0, none⟩) ps) (hge : w.heap.size ≤ g) (hgl : g < V.heap.size) (hlen : N.length < 511) (h0 : 0 < ps.length) (h1 : ps.length ≤ 1000) :
    IsSh (w'.setCell ⟨s, 0, none⟩ (.slice (some ⟨gg, 0, none⟩) (N.length + 1) cap')) s room (N ++ [(lv, ps)]) (fun k => D k ∨ (w.heap.size ≤ k ∧ k < w'.heap.size)) := by
  have hsl : s < w.heap.size := h.lt s h.ds
  have hsV : s < V.heap.size := Nat.lt_of_lt_of_le hsl hk.size
  have hsw : w'.heap[s]? = _ := (hg.block s hsV (by simp)).trans hs
  have hsz : V.heap.size ≤ w'.heap.size := hg.size
  obtain ⟨hbase, hgw⟩ := rowS_lt hown gg rfl
  have hne : gg ≠ s := by omega
  rcases hown.2 with ⟨e, _⟩ | ⟨g1, cap1, cur, e, _, hcur, hc1, hc2, hc3, hc4⟩
  · cases e
  simp only [Value.slice.injEq, Option.some.injEq, Addr.mk.injEq, and_true, true_and] at e
  obtain ⟨rfl, rfl⟩ := e
  have hfar : ∀ k, k < V.heap.size → k ≠ s → (w'.setCell ⟨s, 0, none⟩ (.slice (some ⟨gg, 0, none⟩) (N.length + 1) cap')).heap[k]? = V.heap[k]? := fun k h1 h2 =>
    (heap_setCell_other _ _ _ _ (by simpa using h2)).trans (hg.block k h1 (by simp))
  have hcell : ∀ j u, (oldC V la N.length ++ [.int .i64 (lv : Int), .slice (some ⟨g, 0, none⟩) ps.length cg])[j]? = some u → (w'.setCell ⟨s, 0, none⟩ (.slice (some ⟨gg, 0, none⟩) (N.length + 1) cap')).cell? ⟨gg, j, none⟩ = some u := fun j u hu => by
    rw [World.cell?_of_block (a := ⟨gg, j, none⟩) (heap_setCell_other _ _ _ _ (by simpa using hne)), cell_of_row _ _ _ _ _ _ hcur]
    rw [← hc4, List.getElem?_take] at hu
    split at hu
    · simpa using hu
    · cases hu
  have hol : (oldC V la N.length).length = N.length * 2 := by
    cases la with
    | none =>
      rcases Nat.eq_zero_or_pos N.length with e | e
      · simp [oldC, e]
      · obtain ⟨_, e2, _⟩ := hL e
        cases e2
    | some b => simp [oldC]
  have hkK : KeptIn (fun k => k < V.heap.size ∧ k ≠ s) V (w'.setCell ⟨s, 0, none⟩ (.slice (some ⟨gg, 0, none⟩) (N.length + 1) cap')) :=
    ⟨hg.os, hg.tape, hg.output, by simpa using hsz, fun k hk => hfar k hk.1 hk.2⟩
  refine ⟨.inl h.ds, ?_, ?_, h.rm, ?_, some ⟨gg, 0, none⟩, cap', ?_, ?_, ?_⟩
  · rintro k (hD | ⟨_, h2⟩)
    · have := h.lt k hD
      have := hk.size
      simp
      omega
    · simpa using h2
  · simp; omega
  · intro i hi
    rcases Nat.lt_or_ge i N.length with h2 | h2
    · rw [List.getElem_append_left h2]; exact h.pos i h2
    · rw [List.getElem_append_right h2]
      simp at hi
      simp [show i - N.length = 0 by omega]
      omega
  · rw [heap_setCell_same _ _ _ _ _ _ hsw, List.length_append]
    rfl
  · intro e; simp at e
  · intro _
    refine ⟨gg, rfl, .inr ⟨by have := hk.size; omega, hgw⟩, hne, by simpa using hc1, hc2, fun i hi => ?_⟩
    rcases Nat.lt_or_ge i N.length with h2 | h2
    · rw [List.getElem_append_left h2]
      obtain ⟨b, rfl, hb, hbs, hn⟩ := hL (by omega)
      obtain ⟨a, capn, e1, e2, e3, e4⟩ := (hn i h2).kept (hk.mono fun k h' => h.lt k h'.1) ⟨hb, hbs⟩ fun _ h => h
      have o1 : (oldC V (some ⟨b, 0, none⟩) N.length)[i * 2]? = some (.int .i64 (N[i].1 : Int)) := by
        simp only [oldC, List.getElem?_map, List.getElem?_range (show i * 2 < N.length * 2 by omega), Option.map_some, addr_add, Nat.zero_add]
        rw [cellOf, e1]; rfl
      have o2 : (oldC V (some ⟨b, 0, none⟩) N.length)[i * 2 + 1]? = some (.slice a N[i].2.length capn) := by
        simp only [oldC, List.getElem?_map, List.getElem?_range (show i * 2 + 1 < N.length * 2 by omega), Option.map_some, addr_add, Nat.zero_add]
        rw [cellOf, e2]; rfl
      refine ⟨a, capn, hcell _ _ ?_, hcell _ _ ?_, psAt e3 hkK fun p e => ?_, fun p e => ⟨.inl (e4 p e).1, (e4 p e).2⟩⟩
      · rw [List.getElem?_append_left (by rw [hol]; omega)]; exact o1
      · rw [List.getElem?_append_left (by rw [hol]; omega)]; exact o2
      · have hD := e4 p e
        exact ⟨Nat.lt_of_lt_of_le (h.lt _ hD.1) hk.size, hD.2⟩
    · have hi' : i = N.length := by simp at hi; omega
      subst hi'
      rw [List.getElem_append_right (Nat.le_refl _)]
      simp only [Nat.sub_self, List.getElem_cons_zero]
      refine ⟨some ⟨g, 0, none⟩, cg, hcell _ _ ?_, hcell _ _ ?_, psAt hps hkK fun p e => ?_, fun p e => ?_⟩
      · rw [List.getElem?_append_right (by rw [hol]; omega), hol]; simp
      · rw [List.getElem?_append_right (by rw [hol]; omega), hol]; simp
      · cases e; exact ⟨hgl, by show g ≠ s; omega⟩
      · cases e; exact ⟨.inr ⟨hge, Nat.lt_of_lt_of_le hgl hsz⟩, by show g ≠ s; omega⟩

set_option maxRecDepth 100000 in
theorem shAdd {w : World} {s room : Nat} {N : List Nd} {D : Nat → Prop} (h : IsSh w s room N D) (hroom : N.length < min room 511) (lv : Nat) (a : Option Addr) (cp : Nat) (ps : Pairs) (hps : IsPs w a ps) (h0 : 0 < ps.length) (hl : ps.length ≤ 1000) :
    Calls Try.prog 87 #[.pointer (some ⟨s, 0, none⟩), leafV (lv : Int) a ps.length cp] w (AddS w s room N D (lv, ps)) := by
  obtain ⟨la, cap, h1, hz, h2⟩ := h.mem
  have hsl : s < w.heap.size := h.lt s h.ds
  have CP := Lib.hid fun V (hk : KeptIn (· < w.heap.size) w V) => trCopy (lv : Int) a cp ps V (hps.old hk) h0 (Nat.le_trans hl (by decide))
  obtain ⟨n, hnl⟩ : ∃ n, N.length = n := ⟨_, rfl⟩
  obtain ⟨m, hml⟩ : ∃ m, ps.length = m := ⟨_, rfl⟩
  have HC : Hid (ClipOk la n cap) := Lib.hid (by
    rw [← hnl]
    rcases Nat.eq_zero_or_pos N.length with e | e
    · obtain ⟨rfl, rfl⟩ := hz e
      exact .inl ⟨rfl, e, rfl⟩
    · obtain ⟨b, rfl, _, _, h3, h4, _⟩ := h2 e
      exact .inr ⟨b, rfl, h3, h4⟩)
  obtain ⟨W, hW⟩ : ∃ W, w.alloc (.cells #[.int .i64 (lv : Int), .slice a m cp] 66) = W := ⟨_, rfl⟩
  have hk : KeptIn (· < w.heap.size) w W := by rw [← hW]; exact (KeptIn.refl _ w).alloc (fun _ h => h) _
  have hb : BoxL w.heap.size (lv : Int) a m cp W := by rw [← hW]; exact BoxL.new w _ _ _ _
  obtain ⟨x, hx⟩ : ∃ x, w.heap.size = x := ⟨_, rfl⟩
  have hsb := (hk.block s hsl).trans h1
  rw [hnl] at hsb hroom
  have c0 : W.cell? ⟨s, 0, none⟩ = some (.slice la n cap) := by simp [World.cell?, hsb]
  have c1 : W.cell? ⟨s, 1, none⟩ = some (.int .i64 (room : Int)) := by simp [World.cell?, hsb]
  have c2 := hb.c0
  have c3 := hb.c1
  unfold leafV at CP ⊢
  rw [hml] at CP ⊢
  rw [hx] at c2 c3
  have HH := Lib.hid h
  have HNL := Lib.hid hnl
  have HML := Lib.hid hml
  have HSB := Lib.hid hsb
  have HKB := Lib.hid (And.intro hk hb)
  have HHZ := Lib.hid hz
  have HH2 := Lib.hid h2
  obtain ⟨u, hu⟩ : ∃ u, min room 511 = u := ⟨_, rfl⟩
  have hui : min (room : Int) 511 = (u : Int) := by omega
  rw [hu] at hroom
  have r1 : ¬ ((u : Int) ≤ (n : Int)) := by omega
  have r2 : ¬ (u ≤ n) := by omega
  clear hu
  clear h hnl hml hsb hk hb hz h2 hps h1
  go_enter Try.func87, Try.ntmps87
  go_wp2_with fail
  go_quiet (fail)
  go_wp2_with fail
  obtain ⟨V0, hV0⟩ : ∃ V0, W.drewN nq = V0 := ⟨_, rfl⟩
  have k0 : KeptIn (· < W.heap.size) W V0.drew := by rw [← hV0]; exact ((KeptIn.refl _ _).drewN nq).drew
  have HG : Hid (∀ V, KeptIn (· < W.heap.size) W V → V.cell? ⟨s, 0, none⟩ = some (.slice la n cap) ∧ V.frozen? ⟨s, 0, none⟩ = false ∧ V.cell? ⟨x, 0, none⟩ = some (.int .i64 (lv : Int)) ∧ V.cell? ⟨x, 1, none⟩ = some (.slice a m cp) ∧
      V.heap[s]? = some (.cells #[.slice la n cap, .int .i64 (room : Int)] 28 (0, 0)) ∧ ∀ o, (V.alloc o).cell? ⟨s, 0, none⟩ = some (.slice la n cap) ∧ (V.alloc o).heap[s]? = some (.cells #[.slice la n cap, .int .i64 (room : Int)] 28 (0, 0))) := Lib.hid fun V hV => by
    have hsW : s < W.heap.size := Nat.lt_of_lt_of_le hsl HKB.out.1.size
    have h1 := (hV.block s hsW).trans HSB.out
    have h2 := HKB.out.2.kept hV HKB.out.2.lt
    rw [hx] at h2
    have h3 : ∀ o, (V.alloc o).heap[s]? = some (.cells #[.slice la n cap, .int .i64 (room : Int)] 28 (0, 0)) := fun o => (Lib.alloc_old V o s (Nat.lt_of_lt_of_le hsW hV.size)).trans h1
    exact ⟨by simp [World.cell?, h1], by simp [World.frozen?, h1], h2.c0, h2.c1, h1, fun o => ⟨by simp [World.cell?, h3 o], h3 o⟩⟩
  have HL : Hid (ListOk w s N D la N.length) := Lib.hid fun e => by
    obtain ⟨b, h1, h2, h3, _, _, h4⟩ := HH2.out e
    exact ⟨b, h1, h2, h3, h4⟩
  have HG2 : Hid (∀ V g cg, KeptIn (· < W.heap.size) W V → ∃ V2, V.alloc (.cells #[.int .i64 (lv : Int), .slice (some ⟨g, 0, none⟩) m cg] 66) = V2 ∧ V2.cell? ⟨s, 0, none⟩ = some (.slice la n cap) ∧
      (∀ b, la = some b → ∀ j u, (oldC V2 la n)[j]? = some u → V2.cell? (b.add j) = some u) ∧ (∀ j u, [Value.int .i64 (lv : Int), .slice (some ⟨g, 0, none⟩) m cg][j]? = some u → V2.cell? ((⟨V.heap.size, 0, none⟩ : Addr).add j) = some u) ∧
      (∀ w1, V2.grownBy w1 none → w1.cell? ⟨s, 0, none⟩ = some (.slice la n cap) ∧ w1.frozen? ⟨s, 0, none⟩ = false) ∧ KeptIn (· < w.heap.size) w V2 ∧ V.heap.size + 1 = V2.heap.size ∧ V2.heap[s]? = some (.cells #[.slice la n cap, .int .i64 (room : Int)] 28 (0, 0)) ∧ KeptIn (· < V.heap.size) V V2) := Lib.hid fun V g cg hV => by
    have h := (HG.out V hV).2.2.2.2.2 (.cells #[.int .i64 (lv : Int), .slice (some ⟨g, 0, none⟩) m cg] 66)
    have hkV := (KeptIn.refl (· < V.heap.size) V).alloc (fun _ h => h) (.cells #[.int .i64 (lv : Int), .slice (some ⟨g, 0, none⟩) m cg] 66)
    have hk2 : KeptIn (· < w.heap.size) w (V.alloc (.cells #[.int .i64 (lv : Int), .slice (some ⟨g, 0, none⟩) m cg] 66)) := (HKB.out.1.go hV).go hkV
    refine ⟨_, rfl, h.1, ?_, World.news_of_block (heap_alloc_new V _), fun w1 hg => ?_, hk2, by simp, h.2, hkV⟩
    · rw [← HNL.out]; exact oldC_at HL.out HH.out.lt hk2
    · have : w1.heap[s]? = _ := (hg.block s (Nat.lt_of_lt_of_le hsl hk2.size) (by simp)).trans h.2
      exact ⟨by simp [World.cell?, this], by simp [World.frozen?, this]⟩
  obtain ⟨g0, g1, g2, g3, _, _⟩ := HG.out _ k0
  obtain ⟨il, hil, hl0, hl1, hl2⟩ := info_parts infoLeaf
  have b1 : n + 1 ≤ maxLen := by unfold maxLen; omega
  have b2 : (n + 1) * 32 ≤ 140737488355328 := by omega
  rw [hV0]
  clear hV0 c0 c1 c2 c3
  go_region_law (first
    | (refine step_append_grows (by rfl) _ _ 26 (by rfl) 66 il _ 2 32 Try.underlying26 hil hl0 hl1 hl2 rfl (by omega) la n n (oldC V2 la n) (by rfl) (clip_none HC.out) (oldC_len HC.out V2) hold ⟨V.heap.size, 0, none⟩ 1 1 [.int .i64 (lv : Int), .slice (some ⟨g, 0, none⟩) m cg] (by rfl) (by rfl) hnews (by simp [Value.oneCell']) (by omega) b1 b2 ?_; intro v' w' hown hgrow; obtain ⟨gg, cap', rfl, hgg1, hgg2⟩ := World.ownsRow.form hown (by omega); obtain ⟨e1, e2⟩ := hgr w' hgrow)
    | (go_simp; go_at_call 88; refine (lClipOk HC.out _).mono ?_; rintro e _ ⟨rfl, rfl⟩)
    | (go_simp; go_at_call 34; refine (CP.out _ (HKB.out.1.go k0)).mono ?_; rintro e V ⟨g, cg, rfl, hpsV, hgV, hkV, _⟩; unfold leafV; rw [HML.out]; obtain ⟨g4, g5, g6, g7, _, _⟩ := HG.out V (k0.go hkV); obtain ⟨V2, hV2, g10, hold, hnews, hgr, hk2, hsz2, hs2, hkV2⟩ := HG2.out V g cg (k0.go hkV)))
  all_goals
    have hgl : g < V.heap.size := by
      obtain ⟨b', _, e', hb', _⟩ := hpsV.cells h0
      cases e'
      exact hb'
    have hA := shAdded (gg := gg) (cap' := cap') (g := g) (cg := cg) (lv := lv) (ps := ps) (cap := cap) HH.out HL.out (by rw [HNL.out]; exact hs2) hk2 hgrow (by rw [HNL.out, HML.out]; exact hown) (hpsV.old hkV2) (Nat.le_trans HKB.out.1.size (Nat.le_trans k0.size hgV)) (by rw [← hsz2]; exact Nat.lt_succ_of_lt hgl) (by rw [HNL.out]; omega) h0 hl
    have hkF : KeptIn (fun k => k < w.heap.size ∧ k ≠ s) w (w'.setCell ⟨s, 0, none⟩ (.slice (some ⟨gg, 0, none⟩) (n + 1) cap')) := ((hk2.mono fun k h => h.1).trans ⟨hgrow.os, hgrow.tape, hgrow.output, hgrow.size, fun k hk => hgrow.block k (Nat.lt_of_lt_of_le hk.1 hk2.size) (by simp)⟩).setCell (by simp) _
    have hs9 : (w'.setCell ⟨s, 0, none⟩ (.slice (some ⟨gg, 0, none⟩) (n + 1) cap')).cell? ⟨s, 0, none⟩ = some (.slice (some ⟨gg, 0, none⟩) (n + 1) cap') := World.cell?_setCell_same' _ _ _ (by rw [e1]; rfl)
    rw [HNL.out] at hA
    obtain ⟨W9, hW9⟩ : ∃ W9, w'.setCell ⟨s, 0, none⟩ (.slice (some ⟨gg, 0, none⟩) (n + 1) cap') = W9 := ⟨_, rfl⟩
    rw [hW9] at hA hkF hs9 ⊢
    have HA := Lib.hid hA
    have HF := Lib.hid hkF
    have hn9 : (n : Int) + 1 ≤ 9223372036854775807 := by omega
    clear hW9 hA hkF hown hgrow hold hnews hgr hV2 g0 g1 g2 g3 g4 g5 g6 g7 g10 e1 e2 hs2
    go_wp2_with fail
    go_ret2
    exact ⟨_, by rw [HNL.out]; simp, HA.out, fun k hk => hk.imp id fun h => h.1, HF.out⟩

set_option maxRecDepth 100000 in
theorem shFull {w : World} {s room : Nat} {N : List Nd} {D : Nat → Prop} (h : IsSh w s room N D) (hroom : min room 511 ≤ N.length) (lv : Int) (a : Option Addr) (m cp : Nat) :
    Calls Try.prog 87 #[.pointer (some ⟨s, 0, none⟩), leafV lv a m cp] w fun e w' => e = .returned (.tuple #[.int .i64 0, .int .i64 6]) ∧ KeptIn (· < w.heap.size) w w' := by
  obtain ⟨la, cap, h1, hz, h2⟩ := h.mem
  have hsl : s < w.heap.size := h.lt s h.ds
  have hlen := h.len
  obtain ⟨n, hnl⟩ : ∃ n, N.length = n := ⟨_, rfl⟩
  obtain ⟨W, hW⟩ : ∃ W, w.alloc (.cells #[.int .i64 lv, .slice a m cp] 66) = W := ⟨_, rfl⟩
  have hk : KeptIn (· < w.heap.size) w W := by rw [← hW]; exact (KeptIn.refl _ w).alloc (fun _ h => h) _
  have hsb := (hk.block s hsl).trans h1
  rw [hnl] at hsb hroom hlen
  have c0 : W.cell? ⟨s, 0, none⟩ = some (.slice la n cap) := by simp [World.cell?, hsb]
  have c1 : W.cell? ⟨s, 1, none⟩ = some (.int .i64 (room : Int)) := by simp [World.cell?, hsb]
  obtain ⟨u, hu⟩ : ∃ u, min room 511 = u := ⟨_, rfl⟩
  have hui : min (room : Int) 511 = (u : Int) := by omega
  rw [hu] at hroom
  have r1 : (u : Int) ≤ (n : Int) := by omega
  have r3 : ¬ ((n : Int) < (u : Int)) := by omega
  have HK := Lib.hid hk
  clear hu h hz h2 hsb hk h1
  unfold leafV
  go_enter Try.func87, Try.ntmps87
  go_wp2_with fail
  go_quiet (fail)
  go_wp2_with fail
  go_ret2
  exact ⟨rfl, HK.out.drewN _⟩

end Go.Proofs.Ytnmjnaajpgdlgaa
