/- Package disc (layer 4): a device at a block; Len, holds, at, stays. -/
import Derived.Test.YtmfnapbahkonhaaSecOf
import Derived.Test.YtmfnapbahkonhaaMains
import Derived.Laws.BitsAllLaws
import Derived.WalkKit
import Derived.WalkSpells
import Derived.WalkLawsBesides
import Derived.RegionTactic
import Derived.BigRegion
import Derived.Outline
import Derived.Deep.MidRow
import Derived.Lib.Hide
set_option linter.unusedVariables false
namespace Go.Proofs.Ytmfnapbahkonhaa
open Go.RowKit

/-! ### rows of sectors -/
theorem flat_length : ∀ (S : List (List UInt8)), (∀ x ∈ S, x.length = 16) → S.flatten.length = 16 * S.length
  | [], _ => rfl
  | x :: r, h => by
    rw [List.flatten_cons, List.length_append, flat_length r (fun y hy => h y (by simp [hy])), h x (by simp), List.length_cons]
    omega

theorem flat_drop : ∀ (S : List (List UInt8)) (i : Nat), (∀ x ∈ S, x.length = 16) → S.flatten.drop (16 * i) = (S.drop i).flatten
  | [], i, _ => by simp
  | x :: r, 0, _ => rfl
  | x :: r, i + 1, h => by
    rw [List.flatten_cons, List.drop_append, h x (by simp), List.drop_of_length_le (by rw [h x (by simp)]; omega), List.nil_append, show 16 * (i + 1) - 16 = 16 * i by omega, flat_drop r i (fun y hy => h y (by simp [hy]))]
    rfl

theorem flat_take : ∀ (S : List (List UInt8)) (i : Nat), (∀ x ∈ S, x.length = 16) → S.flatten.take (16 * i) = (S.take i).flatten
  | [], i, _ => by simp
  | x :: r, 0, _ => by simp
  | x :: r, i + 1, h => by
    rw [List.flatten_cons, List.take_append, h x (by simp), List.take_of_length_le (by rw [h x (by simp)]; omega), show 16 * (i + 1) - 16 = 16 * i by omega, flat_take r i (fun y hy => h y (by simp [hy]))]
    rfl

theorem nth_flat (S : List (List UInt8)) (i : Nat) (hi : i < S.length) (h : ∀ x ∈ S, x.length = 16) : nth S.flatten i = S[i] := by
  rw [nth, flat_drop S i h, List.drop_eq_getElem_cons hi, List.flatten_cons, List.take_append, h _ (List.getElem_mem hi), List.take_of_length_le (by rw [h _ (List.getElem_mem hi)]; omega)]
  simp

theorem flat_set (S : List (List UInt8)) (i : Nat) (hi : i < S.length) (h : ∀ x ∈ S, x.length = 16) (l : List UInt8) : S.flatten.take (16 * i) ++ l ++ S.flatten.drop (16 * i + 16) = (S.set i l).flatten := by
  rw [flat_take S i h, show 16 * i + 16 = 16 * (i + 1) by omega, flat_drop S (i + 1) h, List.set_eq_take_append_cons_drop, if_pos hi]
  simp

/-! ### cells stored into a row -/
theorem heap_setCells_other (b : Nat) : ∀ (vs : List Value) (o : Nat) (w : World) (k : Nat), k ≠ b → (w.setCells b o vs).heap[k]? = w.heap[k]?
  | [], _, _, _, _ => rfl
  | v :: r, o, w, k, h => by
    rw [World.setCells, heap_setCells_other b r (o + 1) _ k h]
    exact heap_setCell_other _ _ _ _ h

theorem size_setCells (b : Nat) : ∀ (vs : List Value) (o : Nat) (w : World), (w.setCells b o vs).heap.size = w.heap.size
  | [], _, _ => rfl
  | v :: r, o, w => by rw [World.setCells, size_setCells b r (o + 1)]; simp [World.setCell]

theorem os_setCells (b : Nat) : ∀ (vs : List Value) (o : Nat) (w : World), (w.setCells b o vs).os = w.os ∧ (w.setCells b o vs).tape = w.tape ∧ (w.setCells b o vs).output = w.output
  | [], _, _ => ⟨rfl, rfl, rfl⟩
  | v :: r, o, w => by rw [World.setCells]; exact os_setCells b r (o + 1) (w.setCell ⟨b, o, none⟩ v)

theorem KeptIn.setCells {X : Nat → Prop} {a b : World} (h : KeptIn X a b) {g : Nat} (hg : ¬ X g) (o : Nat) (vs : List Value) : KeptIn X a (b.setCells g o vs) :=
  ⟨(os_setCells g vs o b).1.trans h.os, (os_setCells g vs o b).2.1.trans h.tape, (os_setCells g vs o b).2.2.trans h.output, by rw [size_setCells]; exact h.size,
    fun k hk => (heap_setCells_other g vs o b k (fun e => hg (e ▸ hk))).trans (h.block k hk)⟩

theorem heap_setCells (b : Nat) (t : TypeId) : ∀ (vs : List Value) (o : Nat) (cur : List Value) (w : World), w.heap[b]? = some (.cells cur.toArray t (0, 0)) → o + vs.length ≤ cur.length →
    (w.setCells b o vs).heap[b]? = some (.cells (cur.take o ++ vs ++ cur.drop (o + vs.length)).toArray t (0, 0))
  | [], o, cur, w, h, _ => by simpa [World.setCells] using h
  | v :: r, o, cur, w, h, hl => by
    have h1 : (w.setCell ⟨b, o, none⟩ v).heap[b]? = some (.cells (cur.set o v).toArray t (0, 0)) := by
      rw [heap_setCell_same _ _ _ _ _ _ h]
      simp
    simp only [List.length_cons] at hl
    rw [World.setCells, heap_setCells b t r (o + 1) (cur.set o v) _ h1 (by simp; omega)]
    congr 3
    rw [List.drop_set_of_lt (by omega), show cur.set o v = cur.take o ++ v :: cur.drop (o + 1) by rw [List.set_eq_take_append_cons_drop, if_pos (by omega)]]
    rw [List.take_append, List.take_of_length_le (by simp; omega), List.length_take, Nat.min_eq_left (by omega), show o + 1 - o = 1 by omega]
    simp only [List.take_succ_cons, List.take_zero, List.length_cons, List.append_assoc, List.cons_append, List.nil_append, show o + 1 + r.length = o + (r.length + 1) by omega]

theorem there_block {w w' : World} {s o n : Nat} (h : w.there s o n) (hb : w'.heap[s]? = w.heap[s]?) : w'.there s o n := fun j hj => by
  have h1 : w'.cell? ⟨s, o + j, none⟩ = w.cell? ⟨s, o + j, none⟩ := World.cell?_of_block hb
  have h2 : w'.frozen? ⟨s, o + j, none⟩ = w.frozen? ⟨s, o + j, none⟩ := World.frozen?_of_block hb
  rw [h1, h2]
  exact h j hj
theorem range_block {w w' : World} {s o : Nat} {cs : List Value} (h : w.rangeAt s o cs) (hb : w'.heap[s]? = w.heap[s]?) : w'.rangeAt s o cs := fun j v hv =>
  (World.cell?_of_block (a := ⟨s, o + j, none⟩) hb).trans (h j v hv)
theorem secSizeL {l : List UInt8} (h : l.length = 16) : (Try.prog.info? 74).map (·.size) = some (Lib.byteCells l).length := by
  have := secSize h; rwa [List.size_toArray] at this

theorem range_sec {w : World} {q : Nat} {l : List UInt8} (h : SecAt q l w) : w.rangeAt q 0 (Lib.byteCells l) := fun j v hv => by
  rw [cell_of_row w q (0 + j) _ _ _ h.2, Nat.zero_add]
  simpa using hv

/-! ### a device -/
/-- A device at block d: its power at m, its safe sectors S in block s, in block b the map M of those that are loose. -/
structure IsD (d m s b N : Nat) (S : List (List UInt8)) (M : Int → Option (List UInt8)) (w : World) : Prop where
  hd : w.heap[d]? = some (.cells #[.pointer (some ⟨m, 0, none⟩), .slice (some ⟨s, 0, none⟩) S.length S.length, .map (some b)] 72 (0, 0))
  hs : w.heap[s]? = some (.cells (Lib.byteCells S.flatten).toArray 74 (0, 0))
  map : MapAt b N M w
  len : ∀ x ∈ S, x.length = 16
  max : S.length ≤ 16384
  dom : ∀ x l, M x = some l → 0 ≤ x ∧ x < S.length

section
variable {d m s b N : Nat} {S : List (List UInt8)} {M : Int → Option (List UInt8)} {w w' : World}

theorem IsD.kept {X : Nat → Prop} (h : IsD d m s b N S M w) (hk : KeptIn X w w') (h1 : X d) (h2 : X s) (h3 : X b) : IsD d m s b N S M w' :=
  ⟨(hk.block d h1).trans h.hd, (hk.block s h2).trans h.hs, h.map.kept hk h3, h.len, h.max, h.dom⟩
theorem IsD.ltd (h : IsD d m s b N S M w) : d < w.heap.size := (Array.getElem?_eq_some_iff.1 h.hd).1
theorem IsD.lts (h : IsD d m s b N S M w) : s < w.heap.size := (Array.getElem?_eq_some_iff.1 h.hs).1
theorem IsD.ltb (h : IsD d m s b N S M w) : b < w.heap.size := h.map.lt
theorem IsD.ne_ds (h : IsD d m s b N S M w) : d ≠ s := fun e => by
  have := h.hd; rw [e, h.hs] at this
  simp only [Option.some.injEq, Obj.cells.injEq] at this
  exact absurd this.2.1 (by decide)
theorem MapAt.ne {cs : Array Value} {t : TypeId} {fr : Nat × Nat} {k : Nat} (h : MapAt b N M w) (hk : w.heap[k]? = some (.cells cs t fr)) : k ≠ b := fun e => by
  obtain ⟨D, ⟨es, clock, h1, _⟩, _⟩ := h
  rw [e, h1] at hk
  cases hk
theorem IsD.ne_db (h : IsD d m s b N S M w) : d ≠ b := h.map.ne h.hd
theorem IsD.ne_sb (h : IsD d m s b N S M w) : s ≠ b := h.map.ne h.hs
theorem IsD.c0 (h : IsD d m s b N S M w) : w.cell? ⟨d, 0, none⟩ = some (.pointer (some ⟨m, 0, none⟩)) := by simp [World.cell?, h.hd]
theorem IsD.c1 (h : IsD d m s b N S M w) : w.cell? ⟨d, 1, none⟩ = some (.slice (some ⟨s, 0, none⟩) S.length S.length) := by simp [World.cell?, h.hd]
theorem IsD.c2 (h : IsD d m s b N S M w) : w.cell? ⟨d, 2, none⟩ = some (.map (some b)) := by simp [World.cell?, h.hd]

/-- The safe sector i lies in its row. -/
theorem IsD.range (h : IsD d m s b N S M w) (i : Nat) (hi : i < S.length) : w.rangeAt s (i * 16) (Lib.byteCells S[i]) := by
  have := World.rangeAt_of_block h.hs (i * 16) 16
  rwa [show ((Lib.byteCells S.flatten).toArray.extract (i * 16) (i * 16 + 16)).toList = Lib.byteCells S[i] from by
    rw [← nth_flat S i hi h.len, nth, Nat.mul_comm]
    simp [List.extract_eq_take_drop, Lib.byteCells, List.map_take, List.map_drop]] at this

theorem IsD.there (h : IsD d m s b N S M w) (i : Nat) (hi : i < S.length) : w.there s (i * 16) 16 := fun j hj => by
  have hlen : (Lib.byteCells S.flatten).length = 16 * S.length := by rw [Lib.byteCells_length, flat_length S h.len]
  refine ⟨?_, by simp [World.frozen?, h.hs]⟩
  rw [cell_of_row w s (i * 16 + j) _ _ _ h.hs, Array.getElem?_eq_getElem (by simp [hlen]; omega)]
  rfl

/-- A sector stored into the safe ones. -/
theorem IsD.put (h : IsD d m s b N S M w) (i : Nat) (hi : i < S.length) (l : List UInt8) (hl : l.length = 16) : IsD d m s b N (S.set i l) M (w.setCells s (i * 16) (Lib.byteCells l)) := by
  have hlen : (Lib.byteCells S.flatten).length = 16 * S.length := by rw [Lib.byteCells_length, flat_length S h.len]
  have hk : KeptIn (· ≠ s) w (w.setCells s (i * 16) (Lib.byteCells l)) := (KeptIn.refl _ w).setCells (by simp) _ _
  refine ⟨?_, ?_, h.map.kept hk h.ne_sb.symm, ?_, by simpa using h.max, by simpa using h.dom⟩
  · rw [hk.block d h.ne_ds, List.length_set]
    exact h.hd
  · rw [heap_setCells s 74 (Lib.byteCells l) (i * 16) (Lib.byteCells S.flatten) w h.hs (by rw [hlen, Lib.byteCells_length, hl]; omega)]
    rw [← flat_set S i hi h.len l, Lib.byteCells_append, Lib.byteCells_append, Lib.byteCells_length, hl, Nat.mul_comm i 16]
    simp [Lib.byteCells, List.map_take, List.map_drop]
  · intro x hx
    rcases List.mem_or_eq_of_mem_set hx with h1 | rfl
    · exact h.len x h1
    · exact hl

end

theorem dLen (d m s b N : Nat) (S : List (List UInt8)) (M : Int → Option (List UInt8)) (w : World) (h : IsD d m s b N S M w) :
    Calls Try.prog 24 #[.pointer (some ⟨d, 0, none⟩)] w fun e w' => e = .returned (.int .i64 S.length) ∧ w = w' := by
  have c1 := h.c1
  clear h
  go_enter Try.func24, Try.ntmps24
  go_wp2
  go_ret
  exact ⟨rfl, rfl⟩

theorem dLenNil (w : World) : Calls Try.prog 24 #[.pointer none] w fun e w' => e = .returned (.int .i64 0) ∧ w = w' := by
  go_enter Try.func24, Try.ntmps24
  go_wp2
  go_ret
  exact ⟨rfl, rfl⟩

/-- A number that an int holds. -/
abbrev I64 (x : Int) : Prop := -9223372036854775808 ≤ x ∧ x ≤ 9223372036854775807

/-- Whether n sectors from a place on are there. -/
def fits (len : Nat) (at' n : Int) : Bool := decide (0 ≤ at') && decide (0 ≤ n) && decide (at' ≤ (len : Int) - n)

theorem dHolds (d m s b N : Nat) (S : List (List UInt8)) (M : Int → Option (List UInt8)) (w : World) (h : IsD d m s b N S M w) (x n : Int) (hx : I64 x) (hn : I64 n) :
    Calls Try.prog 41 #[.pointer (some ⟨d, 0, none⟩), .int .i64 x, .int .i64 n] w fun e w' => e = .returned (.bool (fits S.length x n)) ∧ w = w' := by
  have c1 := h.c1
  have hm := h.max
  have hn2 := hn.2
  clear h
  unfold fits
  by_cases h0 : 0 ≤ x
  · by_cases h1 : 0 ≤ n
    · have b1 : wrap64 ((S.length : Int) - n) = (S.length : Int) - n := by unfold wrap64; omega
      obtain ⟨k, hk⟩ : ∃ k : Int, (S.length : Int) - n = k := ⟨_, rfl⟩
      have HB := Lib.hid (b1.trans hk)
      rw [hk]
      clear hk b1 hm hn2 hx hn
      obtain ⟨r, hr⟩ : ∃ r, (decide (0 ≤ x) && decide (0 ≤ n) && decide (x ≤ k)) = r := ⟨_, rfl⟩
      rw [hr]
      have HR := Lib.hid hr; clear hr
      go_enter Try.func41, Try.ntmps41
      go_wp2
      go_ret
      refine ⟨?_, rfl⟩
      rw [← HR.out, ← HB.out]
      simp [h0, h1]
    · have h1' : n < 0 := by omega
      have e1 : decide (0 ≤ n) = false := by simpa using h1
      rw [e1, Bool.and_false, Bool.false_and]
      clear hm hn2 hx hn
      go_enter Try.func41, Try.ntmps41
      go_wp2
      go_ret
      exact ⟨rfl, rfl⟩
  · have h0' : x < 0 := by omega
    have e0 : decide (0 ≤ x) = false := by simpa using h0
    rw [e0, Bool.false_and, Bool.false_and]
    clear hm hn2 hx hn
    go_enter Try.func41, Try.ntmps41
    go_wp2
    go_ret
    exact ⟨rfl, rfl⟩

/-- What a sector has now. -/
def now (S : List (List UInt8)) (M : Int → Option (List UInt8)) (i : Nat) : List UInt8 := (M i).getD (S.getD i [])

theorem now_length {d m s b N : Nat} {S : List (List UInt8)} {M : Int → Option (List UInt8)} {w : World} (h : IsD d m s b N S M w) (i : Nat) (hi : i < S.length) : (now S M i).length = 16 := by
  unfold now
  obtain ⟨D, _, hs⟩ := h.map
  cases hM : M i with
  | some l => exact hs.len i l hM
  | none =>
    rw [Option.getD_none, List.getD_eq_getElem?_getD, List.getElem?_eq_getElem hi]
    exact h.len _ (List.getElem_mem hi)

set_option maxHeartbeats 1000000 in
set_option maxRecDepth 100000 in
theorem dAt (d m s b N : Nat) (S : List (List UInt8)) (M : Int → Option (List UInt8)) (w : World) (h : IsD d m s b N S M w) (i : Nat) (hi : i < S.length) :
    Calls Try.prog 43 #[.pointer (some ⟨d, 0, none⟩), .int .i64 i] w fun e w' => e = .returned (secV (now S M i)) ∧ KeptIn (· < w.heap.size) w w' := by
  have hm := h.max
  have hr := h.range i hi
  have c1 := h.c1; have c2 := h.c2
  have b0 : (0 : Int) ≤ (i : Int) := by omega
  have b1 : (i : Int) < (S.length : Int) := by omega
  have hlen : ((M i).getD (List.replicate 16 0)).length = 16 := by
    obtain ⟨D, _, hs⟩ := h.map
    cases hM : M i with
    | some l => exact hs.len i l hM
    | none => simp
  have hSi : S[i].length = 16 := h.len _ (List.getElem_mem hi)
  have hnow : now S M i = if (M i).isSome then (M i).getD (List.replicate 16 0) else S[i] := by
    unfold now
    cases hM : M i with
    | some l => rfl
    | none => simp [List.getD_eq_getElem?_getD, List.getElem?_eq_getElem hi]
  have HL : Hid (∀ W, KeptIn (· < w.heap.size) w W → (Instr.lookup 70 (.map (some b)) (.int .i64 (i : Int)) true).run Try.prog W = .ok (.tuple #[secV ((M i).getD (List.replicate 16 0)), .bool (M i).isSome]) W) :=
    Lib.hid fun W hW => ((h.map.kept hW h.ltb).look (i : Int) (WalkArith.wf_i64 (by omega))).1
  rw [hnow]
  have HR := Lib.hid hr
  have hlt := h.lts; have hltd := h.ltd
  clear hr h hnow
  generalize (M i).isSome = ok at *
  generalize (M i).getD (List.replicate 16 0) = l at *
  generalize S[i] = l2 at *
  have HC1 := Lib.hid c1; have HC2 := Lib.hid c2
  clear c1 c2 hm
  go_enter Try.func43, Try.ntmps43
  go_wp2_with (refine wpList_alloc_sec rfl rfl ?_)
  intro w1 s1 k1 z1
  have c1 : w1.cell? ⟨d, 1, none⟩ = some (.slice (some ⟨s, 0, none⟩) S.length S.length) := (World.cell?_of_block (a := ⟨d, 1, none⟩) (k1.block d hltd)).trans HC1.out
  have c2 : w1.cell? ⟨d, 2, none⟩ = some (.map (some b)) := (World.cell?_of_block (a := ⟨d, 2, none⟩) (k1.block d hltd)).trans HC2.out
  have hlk := HL.out w1 k1
  have S1 := Lib.hid s1; have K1 := Lib.hid k1; have Z1 := Lib.hid z1
  clear s1 k1 z1
  generalize hr0 : w.heap.size = r0 at *
  go_wp2_with (refine wpList_alloc_sec rfl rfl ?_)
  intro w2 s2 k2 z2
  rw [Z1.out] at s2 z2 k2 ⊢
  have S2 := Lib.hid s2; have K2 := Lib.hid k2; have Z2 := Lib.hid z2
  clear s2 k2 z2 hlk c1 c2
  go_wp2_with (refine wpList_store_sec rfl _ _ rfl (r0 + 1) l _ rfl rfl hlen S2.out ?_)
  intro w3 s3 k3 z3
  have K3 : Hid (KeptIn (· < r0 + 1) w1 w3) := Lib.hid (K2.out.trans (k3.mono fun k hk => Nat.ne_of_lt hk))
  have S3 := Lib.hid s3
  have S0 : Hid (SecAt r0 (List.replicate 16 0) w3) := Lib.hid (S1.out.kept K3.out (by omega))
  have KK : Hid (KeptIn (· < r0) w w3) := Lib.hid (K1.out.trans (K3.out.mono fun k hk => by omega))
  have c1 : w3.cell? ⟨d, 1, none⟩ = some (.slice (some ⟨s, 0, none⟩) S.length S.length) := (World.cell?_of_block (a := ⟨d, 1, none⟩) (KK.out.block d hltd)).trans HC1.out
  clear s3 k3 z3 K2 S2 Z2 S1 K1 Z1
  cases ok with
  | true =>
    go_wp2_with (first | (refine wpList_load_sec rfl _ rfl (r0 + 1) l rfl S3.out ?_) | (refine wpList_store_sec rfl _ _ rfl r0 l _ rfl rfl hlen S0.out ?_))
    intro w4 s4 k4 z4
    go_wp2
    exact bodyPost_ret (results_sec rfl _ _ r0 l rfl s4) rfl ⟨rfl, KK.out.trans (k4.mono fun k hk => Nat.ne_of_lt hk)⟩
  | false =>
    have hrg : w3.rangeAt s (i * 16) (Lib.byteCells l2) := fun j v hv => (World.cell?_of_block (a := ⟨s, i * 16 + j, none⟩) (KK.out.block s hlt)).trans (HR.out j v hv)
    have RG := Lib.hid hrg; clear hrg
    go_wp2_with (first | (refine wpList_load_nth rfl _ rfl s (i * 16) l2 rfl hSi RG.out ?_) | (refine wpList_store_sec rfl _ _ rfl r0 l2 _ rfl rfl hSi S0.out ?_))
    intro w4 s4 k4 z4
    go_wp2
    exact bodyPost_ret (results_sec rfl _ _ r0 l2 rfl s4) rfl ⟨rfl, KK.out.trans (k4.mono fun k hk => Nat.ne_of_lt hk)⟩

end Go.Proofs.Ytmfnapbahkonhaa
