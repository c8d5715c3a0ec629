import Derived.Test.YtjollbaohopmjaaRz9W
/- Package reach's Pages over sound trees. -/
set_option linter.unusedVariables false
namespace Go.Proofs.Ytjollbaohopmjaa
open Go.RowKit

theorem infoInt9 : (Try.prog.info? 3).map (fun i => (i.zero, i.size, i.bytes)) = some (some (.int .i64 0), 1, 8) := by kernel_rfl
theorem cellsC_at (C : Int → Nat) (L : List Int) : ∀ i (h : i < L.length), (cellsC C L)[i * 2]? = some (.int .i64 L[i]) ∧ (cellsC C L)[i * 2 + 1]? = some (.int .i64 (C L[i] : Int)) := by
  induction L with
  | nil => intro i h; cases h
  | cons q r ih =>
    intro i h
    cases i with
    | zero => exact ⟨rfl, rfl⟩
    | succ i =>
      have := ih i (by simpa using h)
      rw [show (i + 1) * 2 = i * 2 + 1 + 1 by omega]
      exact this
/-- Pages and counts in memory. -/
structure IsRf (W : World) (a : Option Addr) (C : Int → Nat) (L : List Int) : Prop where
  len : L.length ≤ maxLen
  cells : 0 < L.length → ∃ b off, a = some ⟨b, off, none⟩ ∧ b < W.heap.size ∧ ∀ i (h : i < L.length), W.cell? ⟨b, off + i * 2, none⟩ = some (.int .i64 L[i]) ∧ W.cell? ⟨b, off + i * 2 + 1, none⟩ = some (.int .i64 (C L[i] : Int))
theorem IsRf.kept {X : Nat → Prop} {W W' : World} {a : Option Addr} {C : Int → Nat} {L : List Int} (h : IsRf W a C L) (hk : KeptIn X W W') (hX : ∀ k, k < W.heap.size → X k) : IsRf W' a C L :=
  ⟨h.len, fun hp => by
    obtain ⟨b, off, e, hb, hc⟩ := h.cells hp
    have hb' := hk.block b (hX b hb)
    exact ⟨b, off, e, Nat.lt_of_lt_of_le hb hk.size, fun i hi => ⟨(World.cell?_of_block (a := ⟨b, off + i * 2, none⟩) hb').trans (hc i hi).1, (World.cell?_of_block (a := ⟨b, off + i * 2 + 1, none⟩) hb').trans (hc i hi).2⟩⟩⟩
theorem row_IsRf {W : World} {B cap : Nat} {a : Option Addr} {C : Int → Nat} {L : List Int} (h : W.ownsRow B 41 2 (.slice a L.length cap) L.length (cellsC C L)) : IsRf W a C L := by
  rcases h.2 with ⟨e, h0⟩ | ⟨g, cap', cur, e, hg, hb, hc, hm, hs, ht⟩
  · exact ⟨by rw [h0]; exact Nat.zero_le _, fun hp => by omega⟩
  · simp only [Value.slice.injEq, true_and] at e
    refine ⟨Nat.le_trans hc hm, fun _ => ⟨g, 0, e.1, (Array.getElem?_eq_some_iff.1 hb).1, fun i hi => ?_⟩⟩
    obtain ⟨h1, h2⟩ := cellsC_at C L i hi
    rw [← ht, List.getElem?_take_of_lt (by omega)] at h1 h2
    rw [Nat.zero_add, cell_of_row _ _ _ _ _ _ hb, cell_of_row _ _ _ _ _ _ hb]
    exact ⟨by simpa using h1, by simpa using h2⟩
theorem row_slice9 {W : World} {B n sz : Nat} {T : TypeId} {v : Value} {xs : List Value} (h : W.ownsRow B T sz v n xs) : ∃ a cap, v = .slice a n cap := by
  rcases h.2 with ⟨rfl, h0⟩ | ⟨g, cap, cur, rfl, _⟩
  · exact ⟨none, 0, by rw [h0]⟩
  · exact ⟨_, _, rfl⟩

/-- What Pages answers. -/
def PzS (w : World) (L : List Int) (e : Ending) (w' : World) : Prop :=
  ∃ v, e = .returned (.tuple #[v, .int .i64 0]) ∧ w'.ownsRow w.heap.size 3 1 v L.length (cellsI L) ∧ KeptIn (· < w.heap.size) w w'
def PzJ (B : Nat) (V : World) (L : List Int) (v : Value) (W : World) : Prop := W.ownsRow B 3 1 v L.length (cellsI L) ∧ KeptIn (· < B) V W
theorem PzJ.next {B : Nat} {V W w8 : World} {L : List Int} {q : Int} {v v' : Value} {o p : Obj} (h : PzJ B V L v W) (hB : V.heap.size = B) (hown : w8.ownsRow B 3 1 v' (L.length + 1) (cellsI L ++ [.int .i64 q]))
    (hgrow : ((W.alloc p).alloc o).grownBy w8 v.ownBlock) : PzJ B V (L ++ [q]) v' w8 := by
  refine ⟨?_, ?_⟩
  · rw [List.length_append, show cellsI (L ++ [q]) = cellsI L ++ [.int .i64 q] by simp [cellsI]]; exact hown
  · exact (h.2.trans ((((KeptIn.refl _ W).alloc (fun _ h => h) _).alloc (fun _ h => h) _).mono fun k hk => Nat.lt_of_lt_of_le (by rw [hB]; exact hk) h.2.size)).grown (fun k hk => by rw [hB]; exact hk) hgrow (fun g e => Nat.not_lt.2 (rowS_lt h.1 g e).1)
theorem two_new9 (V : World) (o p : Obj) : ((V.alloc o).alloc p).heap[V.heap.size + 1]? = some p := by
  have := heap_alloc_new (V.alloc o) p
  rwa [World.size_alloc] at this

set_option maxRecDepth 100000 in
set_option maxHeartbeats 4000000 in
theorem rcPages {w : World} {s n cap : Nat} {a : Option Addr} {N : List Nd} {rs : List Int} {P : Int → Bool} (h : Calls Try.prog 7 #[pgV s, .slice a n cap] w (RfS w N rs P)) :
    Calls Try.prog 8 #[pgV s, .slice a n cap] w (PzS w (need9 N rs P)) := by
  have HR := Lib.hid h
  obtain ⟨C, hC⟩ : ∃ C, cnA N rs P = C := ⟨_, rfl⟩
  obtain ⟨L, hL⟩ : ∃ L, need9 N rs P = L := ⟨_, rfl⟩
  have hL5 : L.length ≤ 512 := by rw [← hL]; exact upTo_length _ _
  have HL := Lib.hid (And.intro hC hL)
  rw [hL]
  unfold pgV at *
  clear h hC hL
  go_enter Try.func8, Try.ntmps8
  go_wp2_with fail
  refine HR.out.mono ?_
  rintro e V1 ⟨v1, rfl, hrow, hk1⟩
  rw [HL.out.1, HL.out.2] at hrow
  obtain ⟨a1, c1, rfl⟩ := row_slice9 hrow
  have H := Lib.hid (And.intro (row_IsRf hrow) hk1)
  obtain ⟨nL, hnL⟩ : ∃ nL, L.length = nL := ⟨_, rfl⟩
  have hnLI : (nL : Int) ≤ 512 := by omega
  have HNL := Lib.hid hnL
  rw [hnL]
  obtain ⟨B, hB⟩ : ∃ B, V1.heap.size = B := ⟨_, rfl⟩
  have HB := Lib.hid hB
  have HJ0 : Hid (PzJ B V1 (L.take 0) (.slice none 0 0) V1) := Lib.hid ⟨World.ownsRow_nil _ _ _ _, KeptIn.refl _ V1⟩
  obtain ⟨ii, hii, hz0, hz1, hz2⟩ := info_parts infoInt9
  clear hrow hk1 hnL hB HR HL hL5
  go_wp2_with fail
  go_loopw [8, 10, 22] (fun v _ i wr => ∃ (j : Nat) (X : World) (v0 : Value), X = wr ∧ v0 = v ∧ j ≤ nL ∧ i = .int .i64 (j : Int) ∧ Hid (PzJ B V1 (L.take j) v0 X)) (fun _ _ i _ => nL - (RowKit.intOf i).toNat)
  case atStart => exact ⟨0, _, _, rfl, rfl, Nat.zero_le _, rfl, HJ0⟩
  case round =>
    obtain ⟨j, X, v0, rfl, rfl, hj, rfl, HJ⟩ := hrel
    clear HJ0
    have d0 : (0 : Int) ≤ (j : Int) := by omega
    by_cases hlt : j < nL
    · have d1 : (j : Int) < (nL : Int) := by omega
      have hjl : j < L.length := by rw [HNL.out]; exact hlt
      have hkX : KeptIn (· < V1.heap.size) V1 X := HJ.out.2.mono fun k hk => by rw [← HB.out]; exact hk
      obtain ⟨bk, off, rfl, hbk, hcl⟩ := (H.out.1.kept hkX fun k hk => hk).cells (by omega)
      obtain ⟨e1, e2⟩ := hcl j hjl
      have htk : L.take (j + 1) = L.take j ++ [L[j]] := by rw [List.take_add_one, List.getElem?_eq_getElem hjl]; rfl
      obtain ⟨q, hq⟩ : ∃ q, L[j] = q := ⟨_, rfl⟩
      rw [hq] at e1 e2 htk
      obtain ⟨cq, hcq⟩ : ∃ cq, C q = cq := ⟨_, rfl⟩
      rw [hcq] at e2
      have hlen : (L.take j).length = j := by rw [List.length_take]; omega
      have hrw := HJ.out.1
      rw [hlen] at hrw
      obtain ⟨hb1, hb2⟩ := rf_bnd j (by omega)
      have hb3 : (j + 1) * 8 ≤ 140737488355328 := by omega
      have HRW := Lib.hid hrw
      have HLN := Lib.hid hlen
      have HT := Lib.hid htk
      have HNB := Lib.hid (two_new9 X (.cells #[.int .i64 q, .int .i64 (cq : Int)] 41) (.cells #[.int .i64 q] 3))
      have hBX : B ≤ X.heap.size := by have := HJ.out.2.size; rw [HB.out] at this; exact this
      clear hkX hcl htk hq hlen hrw hjl hbk hcq hb2
      go_wp2_with (first
        | (at_builtin; refine wpList_append_own _ rfl _ _ 23 rfl B 3 ii _ 1 8 Try.underlying23 hii hz0 hz1 hz2 rfl (by decide) _ _ _ rfl ((HRW.out.alloc _).alloc _) ⟨X.heap.size + 1, 0, none⟩ 1 1 [.int .i64 q] rfl rfl (World.news_of_block (cs := #[.int .i64 q]) (t := 3) (fr := (0, 0)) HNB.out) (by simp [Value.oneCell']) hb1 hb3 (by rw [World.size_alloc, World.size_alloc]; exact Nat.le_succ_of_le (Nat.le_succ_of_le hBX)) ?_))
      intro v' w8 hown hgrow _
      have HJ2 : Hid (PzJ B V1 (L.take (j + 1)) v' w8) := Lib.hid (by
        rw [HT.out]
        exact HJ.out.next HB.out (by rw [HLN.out]; exact hown) hgrow)
      clear hown hgrow HJ hb1 hb3 e1 e2 hBX HRW HNB
      go_wp2_with fail
      go_roundw
      case rel => exact ⟨j + 1, _, _, rfl, rfl, by omega, by go_num, HJ2⟩
      case measure => simp only [RowKit.intOf]; omega
    · have d1 : ¬ (j : Int) < (nL : Int) := by omega
      have HE : Hid (PzS w L (.returned (.tuple #[v0, .int .i64 0])) X) := Lib.hid (by
        have h1 := HJ.out
        rw [List.take_of_length_le (by rw [HNL.out]; omega)] at h1
        exact ⟨v0, rfl, row_weaken9 h1.1 (by rw [← HB.out]; exact H.out.2.size), H.out.2.go (h1.2.mono fun k hk => by rw [← HB.out]; exact hk)⟩)
      clear HJ
      go_wp2_with fail
      go_ret2
      exact HE.out

end Go.Proofs.Ytjollbaohopmjaa
