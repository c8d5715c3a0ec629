import Derived.Test.YtkgjmejgkffbdaaGreatDoorSecOfL
import Derived.Test.YtkgjmejgkffbdaaGreatDoorM2
import Derived.Laws.BitsAllLaws
import Derived.WalkKit
import Derived.WalkSpells
import Derived.WalkLawsBesides
import Derived.RegionTactic
import Derived.BigRegion
import Derived.Outline
import Derived.Deep.MidRow
import Derived.Lib.Hide
import Derived.Deep.RegionHeld3
import Derived.LoopTactic
/- Package disc (layer 4): a device at a block; Len, holds, at, stays. -/
set_option linter.unusedVariables false
namespace Go.Proofs.YtkgjmejgkffbdaaGreatDoor
open Go.RowKit

/-! ### rows of sectors -/
theorem flat_length : ∀ (S : List (List UInt8)), (∀ x ∈ S, x.length = 16) → S.flatten.length = 16 * S.length
  | [], _ => rfl
  | x :: r, h => by
    rw [List.flatten_cons, List.length_append, flat_length r (fun y hy => h y (by simp [hy])), h x (by simp), List.length_cons]
    omega

theorem flat_drop : ∀ (S : List (List UInt8)) (i : Nat), (∀ x ∈ S, x.length = 16) → S.flatten.drop (16 * i) = (S.drop i).flatten
  | [], i, _ => by simp
  | x :: r, 0, _ => rfl
  | x :: r, i + 1, h => by
    rw [List.flatten_cons, List.drop_append, h x (by simp), List.drop_of_length_le (by rw [h x (by simp)]; omega), List.nil_append, show 16 * (i + 1) - 16 = 16 * i by omega, flat_drop r i (fun y hy => h y (by simp [hy]))]
    rfl

theorem flat_take : ∀ (S : List (List UInt8)) (i : Nat), (∀ x ∈ S, x.length = 16) → S.flatten.take (16 * i) = (S.take i).flatten
  | [], i, _ => by simp
  | x :: r, 0, _ => by simp
  | x :: r, i + 1, h => by
    rw [List.flatten_cons, List.take_append, h x (by simp), List.take_of_length_le (by rw [h x (by simp)]; omega), show 16 * (i + 1) - 16 = 16 * i by omega, flat_take r i (fun y hy => h y (by simp [hy]))]
    rfl

theorem nth_flat (S : List (List UInt8)) (i : Nat) (hi : i < S.length) (h : ∀ x ∈ S, x.length = 16) : nth S.flatten i = S[i] := by
  rw [nth, flat_drop S i h, List.drop_eq_getElem_cons hi, List.flatten_cons, List.take_append, h _ (List.getElem_mem hi), List.take_of_length_le (by rw [h _ (List.getElem_mem hi)]; omega)]
  simp

theorem flat_set (S : List (List UInt8)) (i : Nat) (hi : i < S.length) (h : ∀ x ∈ S, x.length = 16) (l : List UInt8) : S.flatten.take (16 * i) ++ l ++ S.flatten.drop (16 * i + 16) = (S.set i l).flatten := by
  rw [flat_take S i h, show 16 * i + 16 = 16 * (i + 1) by omega, flat_drop S (i + 1) h, List.set_eq_take_append_cons_drop, if_pos hi]
  simp

/-! ### cells stored into a row -/
theorem heap_setCells_other (b : Nat) : ∀ (vs : List Value) (o : Nat) (w : World) (k : Nat), k ≠ b → (w.setCells b o vs).heap[k]? = w.heap[k]?
  | [], _, _, _, _ => rfl
  | v :: r, o, w, k, h => by
    rw [World.setCells, heap_setCells_other b r (o + 1) _ k h]
    exact heap_setCell_other _ _ _ _ h

theorem size_setCells (b : Nat) : ∀ (vs : List Value) (o : Nat) (w : World), (w.setCells b o vs).heap.size = w.heap.size
  | [], _, _ => rfl
  | v :: r, o, w => by rw [World.setCells, size_setCells b r (o + 1)]; simp [World.setCell]

theorem os_setCells (b : Nat) : ∀ (vs : List Value) (o : Nat) (w : World), (w.setCells b o vs).os = w.os ∧ (w.setCells b o vs).tape = w.tape ∧ (w.setCells b o vs).output = w.output
  | [], _, _ => ⟨rfl, rfl, rfl⟩
  | v :: r, o, w => by rw [World.setCells]; exact os_setCells b r (o + 1) (w.setCell ⟨b, o, none⟩ v)

theorem KeptIn.setCells {X : Nat → Prop} {a b : World} (h : KeptIn X a b) {g : Nat} (hg : ¬ X g) (o : Nat) (vs : List Value) : KeptIn X a (b.setCells g o vs) :=
  ⟨(os_setCells g vs o b).1.trans h.os, (os_setCells g vs o b).2.1.trans h.tape, (os_setCells g vs o b).2.2.trans h.output, by rw [size_setCells]; exact h.size,
    fun k hk => (heap_setCells_other g vs o b k (fun e => hg (e ▸ hk))).trans (h.block k hk)⟩

theorem heap_setCells (b : Nat) (t : TypeId) : ∀ (vs : List Value) (o : Nat) (cur : List Value) (w : World), w.heap[b]? = some (.cells cur.toArray t (0, 0)) → o + vs.length ≤ cur.length →
    (w.setCells b o vs).heap[b]? = some (.cells (cur.take o ++ vs ++ cur.drop (o + vs.length)).toArray t (0, 0))
  | [], o, cur, w, h, _ => by simpa [World.setCells] using h
  | v :: r, o, cur, w, h, hl => by
    have h1 : (w.setCell ⟨b, o, none⟩ v).heap[b]? = some (.cells (cur.set o v).toArray t (0, 0)) := by
      rw [heap_setCell_same _ _ _ _ _ _ h]
      simp
    simp only [List.length_cons] at hl
    rw [World.setCells, heap_setCells b t r (o + 1) (cur.set o v) _ h1 (by simp; omega)]
    congr 3
    rw [List.drop_set_of_lt (by omega), show cur.set o v = cur.take o ++ v :: cur.drop (o + 1) by rw [List.set_eq_take_append_cons_drop, if_pos (by omega)]]
    rw [List.take_append, List.take_of_length_le (by simp; omega), List.length_take, Nat.min_eq_left (by omega), show o + 1 - o = 1 by omega]
    simp only [List.take_succ_cons, List.take_zero, List.length_cons, List.append_assoc, List.cons_append, List.nil_append, show o + 1 + r.length = o + (r.length + 1) by omega]

theorem there_block {w w' : World} {s o n : Nat} (h : w.there s o n) (hb : w'.heap[s]? = w.heap[s]?) : w'.there s o n := fun j hj => by
  have h1 : w'.cell? ⟨s, o + j, none⟩ = w.cell? ⟨s, o + j, none⟩ := World.cell?_of_block hb
  have h2 : w'.frozen? ⟨s, o + j, none⟩ = w.frozen? ⟨s, o + j, none⟩ := World.frozen?_of_block hb
  rw [h1, h2]
  exact h j hj
theorem range_block {w w' : World} {s o : Nat} {cs : List Value} (h : w.rangeAt s o cs) (hb : w'.heap[s]? = w.heap[s]?) : w'.rangeAt s o cs := fun j v hv =>
  (World.cell?_of_block (a := ⟨s, o + j, none⟩) hb).trans (h j v hv)
theorem secSizeL {l : List UInt8} (h : l.length = 16) : (Tryz.prog.info? 112).map (·.size) = some (Lib.byteCells l).length := by
  have := secSize h; rwa [List.size_toArray] at this

theorem range_sec {w : World} {q : Nat} {l : List UInt8} (h : SecAt q l w) : w.rangeAt q 0 (Lib.byteCells l) := fun j v hv => by
  rw [cell_of_row w q (0 + j) _ _ _ h.2, Nat.zero_add]
  simpa using hv

/-! ### a device -/
/-- A device at block d: its power at m, its safe sectors S in block s, in block b the map M of those that are loose. -/
structure IsD (d m s b N : Nat) (S : List (List UInt8)) (M : Int → Option (List UInt8)) (w : World) : Prop where
  hd : w.heap[d]? = some (.cells #[.pointer (some ⟨m, 0, none⟩), .slice (some ⟨s, 0, none⟩) S.length S.length, .map (some b)] 91 (0, 0))
  hs : w.heap[s]? = some (.cells (Lib.byteCells S.flatten).toArray 112 (0, 0))
  map : MapAt b N M w
  len : ∀ x ∈ S, x.length = 16
  max : S.length ≤ 16384
  dom : ∀ x l, M x = some l → 0 ≤ x ∧ x < S.length

section
variable {d m s b N : Nat} {S : List (List UInt8)} {M : Int → Option (List UInt8)} {w w' : World}

theorem IsD.kept {X : Nat → Prop} (h : IsD d m s b N S M w) (hk : KeptIn X w w') (h1 : X d) (h2 : X s) (h3 : X b) : IsD d m s b N S M w' :=
  ⟨(hk.block d h1).trans h.hd, (hk.block s h2).trans h.hs, h.map.kept hk h3, h.len, h.max, h.dom⟩
theorem IsD.ltd (h : IsD d m s b N S M w) : d < w.heap.size := (Array.getElem?_eq_some_iff.1 h.hd).1
theorem IsD.lts (h : IsD d m s b N S M w) : s < w.heap.size := (Array.getElem?_eq_some_iff.1 h.hs).1
theorem IsD.ltb (h : IsD d m s b N S M w) : b < w.heap.size := h.map.lt
theorem IsD.ne_ds (h : IsD d m s b N S M w) : d ≠ s := fun e => by
  have := h.hd; rw [e, h.hs] at this
  simp only [Option.some.injEq, Obj.cells.injEq] at this
  exact absurd this.2.1 (by decide)
theorem MapAt.ne {cs : Array Value} {t : TypeId} {fr : Nat × Nat} {k : Nat} (h : MapAt b N M w) (hk : w.heap[k]? = some (.cells cs t fr)) : k ≠ b := fun e => by
  obtain ⟨D, ⟨es, clock, h1, _⟩, _⟩ := h
  rw [e, h1] at hk
  cases hk
theorem IsD.ne_db (h : IsD d m s b N S M w) : d ≠ b := h.map.ne h.hd
theorem IsD.ne_sb (h : IsD d m s b N S M w) : s ≠ b := h.map.ne h.hs
theorem IsD.c0 (h : IsD d m s b N S M w) : w.cell? ⟨d, 0, none⟩ = some (.pointer (some ⟨m, 0, none⟩)) := by simp [World.cell?, h.hd]
theorem IsD.c1 (h : IsD d m s b N S M w) : w.cell? ⟨d, 1, none⟩ = some (.slice (some ⟨s, 0, none⟩) S.length S.length) := by simp [World.cell?, h.hd]
theorem IsD.c2 (h : IsD d m s b N S M w) : w.cell? ⟨d, 2, none⟩ = some (.map (some b)) := by simp [World.cell?, h.hd]

/-- The safe sector i lies in its row. -/
theorem IsD.range (h : IsD d m s b N S M w) (i : Nat) (hi : i < S.length) : w.rangeAt s (i * 16) (Lib.byteCells S[i]) := by
  have := World.rangeAt_of_block h.hs (i * 16) 16
  rwa [show ((Lib.byteCells S.flatten).toArray.extract (i * 16) (i * 16 + 16)).toList = Lib.byteCells S[i] from by
    rw [← nth_flat S i hi h.len, nth, Nat.mul_comm]
    simp [List.extract_eq_take_drop, Lib.byteCells, List.map_take, List.map_drop]] at this

theorem IsD.there (h : IsD d m s b N S M w) (i : Nat) (hi : i < S.length) : w.there s (i * 16) 16 := fun j hj => by
  have hlen : (Lib.byteCells S.flatten).length = 16 * S.length := by rw [Lib.byteCells_length, flat_length S h.len]
  refine ⟨?_, by simp [World.frozen?, h.hs]⟩
  rw [cell_of_row w s (i * 16 + j) _ _ _ h.hs, Array.getElem?_eq_getElem (by simp [hlen]; omega)]
  rfl

/-- A sector stored into the safe ones. -/
theorem IsD.put (h : IsD d m s b N S M w) (i : Nat) (hi : i < S.length) (l : List UInt8) (hl : l.length = 16) : IsD d m s b N (S.set i l) M (w.setCells s (i * 16) (Lib.byteCells l)) := by
  have hlen : (Lib.byteCells S.flatten).length = 16 * S.length := by rw [Lib.byteCells_length, flat_length S h.len]
  have hk : KeptIn (· ≠ s) w (w.setCells s (i * 16) (Lib.byteCells l)) := (KeptIn.refl _ w).setCells (by simp) _ _
  refine ⟨?_, ?_, h.map.kept hk h.ne_sb.symm, ?_, by simpa using h.max, by simpa using h.dom⟩
  · rw [hk.block d h.ne_ds, List.length_set]
    exact h.hd
  · rw [heap_setCells s 112 (Lib.byteCells l) (i * 16) (Lib.byteCells S.flatten) w h.hs (by rw [hlen, Lib.byteCells_length, hl]; omega)]
    rw [← flat_set S i hi h.len l, Lib.byteCells_append, Lib.byteCells_append, Lib.byteCells_length, hl, Nat.mul_comm i 16]
    simp [Lib.byteCells, List.map_take, List.map_drop]
  · intro x hx
    rcases List.mem_or_eq_of_mem_set hx with h1 | rfl
    · exact h.len x h1
    · exact hl

end

theorem dLen (d m s b N : Nat) (S : List (List UInt8)) (M : Int → Option (List UInt8)) (w : World) (h : IsD d m s b N S M w) :
    Calls Tryz.prog 67 #[.pointer (some ⟨d, 0, none⟩)] w fun e w' => e = .returned (.int .i64 S.length) ∧ w = w' := by
  have c1 := h.c1
  clear h
  go_enter Tryz.func67, Tryz.ntmps67
  go_wp2
  go_ret
  exact ⟨rfl, rfl⟩

theorem dLenNil (w : World) : Calls Tryz.prog 67 #[.pointer none] w fun e w' => e = .returned (.int .i64 0) ∧ w = w' := by
  go_enter Tryz.func67, Tryz.ntmps67
  go_wp2
  go_ret
  exact ⟨rfl, rfl⟩

/-- A number that an int holds. -/
abbrev I64 (x : Int) : Prop := -9223372036854775808 ≤ x ∧ x ≤ 9223372036854775807

/-- Whether n sectors from a place on are there. -/
def fits (len : Nat) (at' n : Int) : Bool := decide (0 ≤ at') && decide (0 ≤ n) && decide (at' ≤ (len : Int) - n)

theorem dHolds (d m s b N : Nat) (S : List (List UInt8)) (M : Int → Option (List UInt8)) (w : World) (h : IsD d m s b N S M w) (x n : Int) (hx : I64 x) (hn : I64 n) :
    Calls Tryz.prog 68 #[.pointer (some ⟨d, 0, none⟩), .int .i64 x, .int .i64 n] w fun e w' => e = .returned (.bool (fits S.length x n)) ∧ w = w' := by
  have c1 := h.c1
  have hm := h.max
  have hn2 := hn.2
  clear h
  unfold fits
  by_cases h0 : 0 ≤ x
  · by_cases h1 : 0 ≤ n
    · have b1 : wrap64 ((S.length : Int) - n) = (S.length : Int) - n := by unfold wrap64; omega
      obtain ⟨k, hk⟩ : ∃ k : Int, (S.length : Int) - n = k := ⟨_, rfl⟩
      have HB := Lib.hid (b1.trans hk)
      rw [hk]
      clear hk b1 hm hn2 hx hn
      obtain ⟨r, hr⟩ : ∃ r, (decide (0 ≤ x) && decide (0 ≤ n) && decide (x ≤ k)) = r := ⟨_, rfl⟩
      rw [hr]
      have HR := Lib.hid hr; clear hr
      go_enter Tryz.func68, Tryz.ntmps68
      go_wp2
      go_ret
      refine ⟨?_, rfl⟩
      rw [← HR.out, ← HB.out]
      simp [h0, h1]
    · have h1' : n < 0 := by omega
      have e1 : decide (0 ≤ n) = false := by simpa using h1
      rw [e1, Bool.and_false, Bool.false_and]
      clear hm hn2 hx hn
      go_enter Tryz.func68, Tryz.ntmps68
      go_wp2
      go_ret
      exact ⟨rfl, rfl⟩
  · have h0' : x < 0 := by omega
    have e0 : decide (0 ≤ x) = false := by simpa using h0
    rw [e0, Bool.false_and, Bool.false_and]
    clear hm hn2 hx hn
    go_enter Tryz.func68, Tryz.ntmps68
    go_wp2
    go_ret
    exact ⟨rfl, rfl⟩

/-- What a sector has now. -/
def now (S : List (List UInt8)) (M : Int → Option (List UInt8)) (i : Nat) : List UInt8 := (M i).getD (S.getD i [])

theorem now_length {d m s b N : Nat} {S : List (List UInt8)} {M : Int → Option (List UInt8)} {w : World} (h : IsD d m s b N S M w) (i : Nat) (hi : i < S.length) : (now S M i).length = 16 := by
  unfold now
  obtain ⟨D, _, hs⟩ := h.map
  cases hM : M i with
  | some l => exact hs.len i l hM
  | none =>
    rw [Option.getD_none, List.getD_eq_getElem?_getD, List.getElem?_eq_getElem hi]
    exact h.len _ (List.getElem_mem hi)

set_option maxHeartbeats 1000000 in
set_option maxRecDepth 100000 in
theorem dAt (d m s b N : Nat) (S : List (List UInt8)) (M : Int → Option (List UInt8)) (w : World) (h : IsD d m s b N S M w) (i : Nat) (hi : i < S.length) :
    Calls Tryz.prog 85 #[.pointer (some ⟨d, 0, none⟩), .int .i64 i] w fun e w' => e = .returned (secV (now S M i)) ∧ KeptIn (· < w.heap.size) w w' := by
  have hm := h.max
  have hr := h.range i hi
  have c1 := h.c1; have c2 := h.c2
  have b0 : (0 : Int) ≤ (i : Int) := by omega
  have b1 : (i : Int) < (S.length : Int) := by omega
  have hlen : ((M i).getD (List.replicate 16 0)).length = 16 := by
    obtain ⟨D, _, hs⟩ := h.map
    cases hM : M i with
    | some l => exact hs.len i l hM
    | none => simp
  have hSi : S[i].length = 16 := h.len _ (List.getElem_mem hi)
  have hnow : now S M i = if (M i).isSome then (M i).getD (List.replicate 16 0) else S[i] := by
    unfold now
    cases hM : M i with
    | some l => rfl
    | none => simp [List.getD_eq_getElem?_getD, List.getElem?_eq_getElem hi]
  have HL : Hid (∀ W, KeptIn (· < w.heap.size) w W → (Instr.lookup 89 (.map (some b)) (.int .i64 (i : Int)) true).run Tryz.prog W = .ok (.tuple #[secV ((M i).getD (List.replicate 16 0)), .bool (M i).isSome]) W) :=
    Lib.hid fun W hW => ((h.map.kept hW h.ltb).look (i : Int) (WalkArith.wf_i64 (by omega))).1
  rw [hnow]
  have HR := Lib.hid hr
  have hlt := h.lts; have hltd := h.ltd
  clear hr h hnow
  generalize (M i).isSome = ok at *
  generalize (M i).getD (List.replicate 16 0) = l at *
  generalize S[i] = l2 at *
  have HC1 := Lib.hid c1; have HC2 := Lib.hid c2
  clear c1 c2 hm
  go_enter Tryz.func85, Tryz.ntmps85
  go_wp2_with (refine wpList_alloc_sec rfl rfl ?_)
  intro w1 s1 k1 z1
  have c1 : w1.cell? ⟨d, 1, none⟩ = some (.slice (some ⟨s, 0, none⟩) S.length S.length) := (World.cell?_of_block (a := ⟨d, 1, none⟩) (k1.block d hltd)).trans HC1.out
  have c2 : w1.cell? ⟨d, 2, none⟩ = some (.map (some b)) := (World.cell?_of_block (a := ⟨d, 2, none⟩) (k1.block d hltd)).trans HC2.out
  have hlk := HL.out w1 k1
  have S1 := Lib.hid s1; have K1 := Lib.hid k1; have Z1 := Lib.hid z1
  clear s1 k1 z1
  generalize hr0 : w.heap.size = r0 at *
  go_wp2_with (refine wpList_alloc_sec rfl rfl ?_)
  intro w2 s2 k2 z2
  rw [Z1.out] at s2 z2 k2 ⊢
  have S2 := Lib.hid s2; have K2 := Lib.hid k2; have Z2 := Lib.hid z2
  clear s2 k2 z2 hlk c1 c2
  go_wp2_with (refine wpList_store_sec rfl _ _ rfl (r0 + 1) l _ rfl rfl hlen S2.out ?_)
  intro w3 s3 k3 z3
  have K3 : Hid (KeptIn (· < r0 + 1) w1 w3) := Lib.hid (K2.out.trans (k3.mono fun k hk => Nat.ne_of_lt hk))
  have S3 := Lib.hid s3
  have S0 : Hid (SecAt r0 (List.replicate 16 0) w3) := Lib.hid (S1.out.kept K3.out (by omega))
  have KK : Hid (KeptIn (· < r0) w w3) := Lib.hid (K1.out.trans (K3.out.mono fun k hk => by omega))
  have c1 : w3.cell? ⟨d, 1, none⟩ = some (.slice (some ⟨s, 0, none⟩) S.length S.length) := (World.cell?_of_block (a := ⟨d, 1, none⟩) (KK.out.block d hltd)).trans HC1.out
  clear s3 k3 z3 K2 S2 Z2 S1 K1 Z1
  cases ok with
  | true =>
    go_wp2_with (first | (refine wpList_load_sec rfl _ rfl (r0 + 1) l rfl S3.out ?_) | (refine wpList_store_sec rfl _ _ rfl r0 l _ rfl rfl hlen S0.out ?_))
    intro w4 s4 k4 z4
    go_wp2
    exact bodyPost_ret (results_sec rfl _ _ r0 l rfl s4) rfl ⟨rfl, KK.out.trans (k4.mono fun k hk => Nat.ne_of_lt hk)⟩
  | false =>
    have hrg : w3.rangeAt s (i * 16) (Lib.byteCells l2) := fun j v hv => (World.cell?_of_block (a := ⟨s, i * 16 + j, none⟩) (KK.out.block s hlt)).trans (HR.out j v hv)
    have RG := Lib.hid hrg; clear hrg
    go_wp2_with (first | (refine wpList_load_nth rfl _ rfl s (i * 16) l2 rfl hSi RG.out ?_) | (refine wpList_store_sec rfl _ _ rfl r0 l2 _ rfl rfl hSi S0.out ?_))
    intro w4 s4 k4 z4
    go_wp2
    exact bodyPost_ret (results_sec rfl _ _ r0 l2 rfl s4) rfl ⟨rfl, KK.out.trans (k4.mono fun k hk => Nat.ne_of_lt hk)⟩

end Go.Proofs.YtkgjmejgkffbdaaGreatDoor
/- disc's Flush. -/
set_option linter.unusedVariables false
namespace Go.Proofs.YtkgjmejgkffbdaaGreatDoor
open Go.RowKit Go.Maps

theorem ranges_block {H : Type} {P : Program} {k : TypeId} {R : Value → Option (DataW H × List MemPlace)} {w w' : World} {b r n : Nat} {D : DataW H} {left : Lit → Bool} {cnt : Nat} (h : w.ranges P k R b r n D left cnt)
    (hb : w'.heap[b]? = w.heap[b]?) (hr : w'.heap[r]? = w.heap[r]?) : w'.ranges P k R b r n D left cnt := by
  obtain ⟨es, clock, since, seen, c0, h1, h2, h3, h4, h5, rest⟩ := h
  exact ⟨es, clock, since, seen, c0, hb.trans h1, h2, h3, h4, hr.trans h5, rest⟩

/-- 'clear(m)'. -/
theorem wpList_clear_sec {ops : Array Oper} {rest : List Oper} {o : Oper} {a : Act} {w : World} {Q : Exit → Act → World → Prop} (hg : o.guard = none) (x : Operand)
    (hop : o.op = Op.call { callee := Callee.builtin Builtin.clear, args := #[x], argTypes := #[89] }) (b N : Nat) (M : Int → Option (List UInt8)) (hm : a.eval x = .map (some b)) (h : MapAt b N M w)
    (hK : ∀ w', MapAt b 0 (fun _ => none) w' → KeptIn (· ≠ b) w w' → w'.heap.size = w.heap.size → wpList Tryz.prog ops Q rest (a.put o.dst (.tuple #[])) w') :
    wpList Tryz.prog ops Q (o :: rest) a w := by
  refine wpList_plain hg fun K hK' => ?_
  obtain ⟨w', hrun, h1, h2, h3⟩ := h.clear o.type
  unfold Oper.wp
  simp [execOp, hop, resolve, invoke, builtin, hm, hrun, Result.andThen]
  exact hK' _ _ (hK w' h1 h2 h3)

/-- All sectors as they are now. -/
def flushed (S : List (List UInt8)) (M : Int → Option (List UInt8)) : List (List UInt8) := (List.range S.length).map (now S M)

/-- The power lies in none of a device's blocks. -/
theorem IsM.ne {m : Nat} {on : Bool} {lives uses fuse : Int} {d m' s b N : Nat} {S : List (List UInt8)} {M : Int → Option (List UInt8)} {w : World} (hm : IsM m on lives uses fuse w) (h : IsD d m' s b N S M w) : m ≠ d ∧ m ≠ s ∧ m ≠ b := by
  have h1 : w.heap[m]? = _ := hm
  refine ⟨fun e => ?_, fun e => ?_, h.map.ne h1⟩
  · have := h.hd; rw [← e, h1] at this
    simp only [Option.some.injEq, Obj.cells.injEq] at this
    exact absurd this.2.1 (by decide)
  · have := h.hs; rw [← e, h1] at this
    simp only [Option.some.injEq, Obj.cells.injEq] at this
    exact absurd this.2.1 (by decide)

/-- Between two rounds of Flush's loop: what has come is safe. -/
structure Safe (w : World) (d m s b r N : Nat) (S : List (List UInt8)) (M : Int → Option (List UInt8)) (D : DataW Unit) (left : Lit → Bool) (cnt : Nat) (S' : List (List UInt8)) (W : World) : Prop where
  rng : W.ranges Tryz.prog 3 secR b r N D left cnt
  isD : IsD d m s b N S' M W
  len : S'.length = S.length
  at' : ∀ i, i < S.length → S'.getD i [] = if left (.int .i64 (i : Int)) then S.getD i [] else now S M i
  kept : KeptIn (fun x => x < w.heap.size ∧ x ≠ s) w W

set_option maxHeartbeats 1000000 in
set_option maxRecDepth 100000 in
theorem dFlushOn (d m s b N : Nat) (p : Pw) (S : List (List UInt8)) (M : Int → Option (List UInt8)) (w : World) (h : IsD d m s b N S M w) (hp : IsP m p w) (hc : p.can = true) :
    Calls Tryz.prog 39 #[.pointer (some ⟨d, 0, none⟩)] w fun e w' => e = .returned (.int .i64 0) ∧ IsD d m s b 0 (flushed S M) (fun _ => none) w' ∧ IsP m p.use w' ∧ KeptIn (fun x => x < w.heap.size ∧ x ≠ m ∧ x ≠ s ∧ x ≠ b) w w' := by
  obtain ⟨hmd, hms, hmb⟩ := hp.1.ne h
  have c0 := h.c0
  have H := Lib.hid h; have HP := Lib.hid hp
  clear h hp
  go_enter Tryz.func39, Tryz.ntmps39
  have HC := Lib.hid hc; clear hc
  go_wp2_with (go_at_call 69; refine (mUseT m p _ HP.out HC.out).mono ?_)
  rintro e w1 ⟨rfl, hp1, hk1⟩
  have h1 : IsD d m s b N S M w1 := H.out.kept hk1 hmd.symm hms.symm hmb.symm
  have HP1 := Lib.hid hp1; have HK1 := Lib.hid hk1
  clear hp1 hk1 c0 HC H HP
  have c2 := h1.c2
  obtain ⟨D, hown, hsay⟩ := h1.map
  have H1 := Lib.hid h1; have HS := Lib.hid hsay
  clear h1 hsay
  go_wp2_with (at_range; refine wpList_range_own _ rfl _ 89 rfl 3 112 law Tryz.underlying89 _ b N D rfl hown ?_; intro w2 hrg hg hz)
  go_frame
  have hkg : KeptIn (· < w1.heap.size) w1 w2 := (KeptIn.refl _ w1).grown (fun _ h => h) hg (by simp)
  have HD0 : Hid (Safe w1 d m s b w1.heap.size N S M D (Maps.has D) (Maps.size D) S w2) := Lib.hid ⟨hrg, H1.out.kept hkg H1.out.ltd H1.out.lts H1.out.ltb, rfl, fun i hi => by
    rw [HS.out.has]
    unfold now
    cases M (i : Int) <;> rfl, hkg.mono fun k hk => hk.1⟩
  have hsz0 : w.heap.size ≤ w1.heap.size := HK1.out.size
  have hlt := H1.out.lts; have hltd := H1.out.ltd
  clear hrg hg hz hkg c2 hown
  obtain ⟨r, hr⟩ : ∃ r, w1.heap.size = r := ⟨_, rfl⟩
  rw [hr] at HD0 hlt hltd hsz0 ⊢
  go_loopw [21] (fun _ wr => ∃ (left : Lit → Bool) (cnt : Nat) (S' : List (List UInt8)) (W : World), W = wr ∧ Hid (Safe w1 d m s b r N S M D left cnt S' W)) (fun _ wr => wr.rangeLeft b r)
  case atStart => exact ⟨_, _, _, _, rfl, HD0⟩
  case round =>
    obtain ⟨left, cnt, S', W, rfl, HJ⟩ := hrel
    clear HD0
    have hrng := HJ.out.rng
    go_wp2_with (at_next; refine wpList_next_ranges _ rfl _ rfl 3 law secR encZ secV (fun key kl hk => by obtain ⟨x, hx, _⟩ := Maps.keyOf_i64 Tryz.underlying3 hk; exact ⟨x, hx⟩) (fun v y hy => by obtain ⟨l, _, hl, _⟩ := secR_inv hy; exact ⟨l, hl⟩) b r N _ _ _ rfl hrng ?_ ?_)
    · intro hc0 hl0
      have hS : S' = flushed S M := by
        apply List.ext_getElem
        · rw [HJ.out.len]; simp [flushed]
        · intro i h1 h2
          have h3 : i < S.length := by rw [← HJ.out.len]; exact h1
          have := HJ.out.at' i h3
          rw [hl0, List.getD_eq_getElem?_getD, List.getElem?_eq_getElem h1] at this
          simpa [flushed] using this
      subst hS
      have HE : Hid (IsD d m s b N (flushed S M) M W ∧ KeptIn (fun x => x < r ∧ x ≠ s) w1 W) := Lib.hid ⟨HJ.out.isD, by rw [← hr]; exact HJ.out.kept⟩
      clear hc0 hl0 hrng HJ
      have c2 := HE.out.1.c2
      go_wp2_with (refine wpList_clear_sec rfl _ rfl b N M rfl HE.out.1.map ?_)
      intro w3 hm3 hk3 hz3
      go_wp2
      go_ret
      have hD := HE.out.1
      refine ⟨rfl, ⟨(hk3.block d hD.ne_db).trans hD.hd, (hk3.block s hD.ne_sb).trans hD.hs, hm3, hD.len, hD.max, fun _ _ h => (by cases h)⟩, ?_, ?_⟩
      · exact (HP1.out.kept HE.out.2 ⟨by rw [← hr]; exact HP1.out.lt, hms⟩).kept hk3 hmb
      · exact ((HK1.out.mono fun k hk => hk.2.1).trans (HE.out.2.mono fun k hk => ⟨by omega, hk.2.2.1⟩)).trans (hk3.mono fun k hk => hk.2.2.2)
    · intro x c kl yd yp w3 cnt3 hkey hlk hv hat hrg3 hlt3 hg3 hs3 hen
      obtain ⟨x', ex, rfl, hwx⟩ := Maps.keyOf_i64 Tryz.underlying3 hkey
      obtain rfl : x = x' := encZ_inj ex
      have hMx : M x = some c := by
        have h1 := has_true_of_atKey hat
        rw [HS.out.has] at h1
        obtain ⟨l', hl'⟩ := Option.isSome_iff_exists.1 h1
        have h2 := HS.out.at' x l' hl' .nil
        rw [hat] at h2
        obtain ⟨l2, _, h3, h4⟩ := secR_inv hv
        rw [Prod.mk.injEq] at h4
        rw [h2] at h4
        have h5 := h4.1
        simp only [DataW.lit.injEq, Lit.string.injEq] at h5
        rw [hl', h5, ← secV_inj h3]
      obtain ⟨hx0, hx1⟩ := H1.out.dom x c hMx
      have hc16 : c.length = 16 := HS.out.len x c hMx
      obtain ⟨k, rfl⟩ : ∃ k : Nat, x = (k : Int) := ⟨x.toNat, by omega⟩
      have hltb : b < r := by rw [← hr]; exact H1.out.ltb
      have hkW : KeptIn (fun x => x < W.heap.size ∧ x ≠ r) W w3 := ⟨hg3.os, hg3.tape, hg3.output, hg3.size, fun j hj => hg3.block j hj.1 (by simpa using hj.2)⟩
      have hD3 : IsD d m s b N S' M w3 := HJ.out.isD.kept hkW ⟨HJ.out.isD.ltd, by omega⟩ ⟨HJ.out.isD.lts, by omega⟩ ⟨HJ.out.isD.ltb, by omega⟩
      have hk3 : KeptIn (fun x => x < r ∧ x ≠ s) w1 w3 := by
        have h1 : KeptIn (fun x => x < r ∧ x ≠ s) w1 W := by rw [← hr]; exact HJ.out.kept
        exact h1.trans (hkW.mono fun j hj => ⟨Nat.lt_of_lt_of_le hj.1 (by rw [← hr]; exact h1.size), by omega⟩)
      have HX : Hid (M (k : Int) = some c ∧ k < S.length) := Lib.hid ⟨hMx, by omega⟩
      have HD3 := Lib.hid hD3; have HK3 := Lib.hid hk3; have HR3 := Lib.hid hrg3; have HC := Lib.hid hc16; have HLT := Lib.hid hlt3
      have HRW := Lib.hid hrng
      clear hs3 hg3 hkW hD3 hk3 hrg3 hv hat hkey hlk ex hwx hMx hx0 hx1 hlt3 hrng hc16
      go_wp2_with (refine wpList_alloc_sec rfl rfl ?_)
      intro w4 s4 k4 z4
      generalize hq : w3.heap.size = q at s4 k4 z4 ⊢
      have S4 := Lib.hid s4; have K4 := Lib.hid k4
      clear s4 k4 z4 hen
      go_wp2_with (refine wpList_store_sec rfl _ _ rfl q c _ rfl rfl HC.out S4.out ?_)
      intro w5 s5 k5 z5
      have hk35 : KeptIn (· < q) w3 w5 := K4.out.trans (k5.mono fun j hj => Nat.ne_of_lt hj)
      have hD3 := HD3.out
      have hqd : d < q := by rw [← hq]; exact hD3.ltd
      have hqs : s < q := by rw [← hq]; exact hD3.lts
      have hqb : b < q := by rw [← hq]; exact hD3.ltb
      have hD5 : IsD d m s b N S' M w5 := hD3.kept hk35 hqd hqs hqb
      have hR5 := ranges_block HR3.out (hk35.block b hqb) (hk35.block r (by rw [← hq]; exact HR3.out.lt))
      have hk15 : KeptIn (fun x => x < r ∧ x ≠ s) w1 w5 := HK3.out.trans (hk35.mono fun j hj => by
        have := HK3.out.size
        omega)
      have hlen : S'.length = S.length := HJ.out.len
      have hkn : k < S'.length := by rw [hlen]; exact HX.out.2
      have b0 : (0 : Int) ≤ (k : Int) := by omega
      have b1 : (k : Int) < (S'.length : Int) := by omega
      have c1 := hD5.c1
      have th := hD5.there k hkn
      have rg := range_sec s5
      have hds := hD5.ne_ds
      have hqs' : q ≠ s := by omega
      obtain ⟨cs, hcs⟩ : ∃ cs, Lib.byteCells c = cs := ⟨_, rfl⟩
      rw [hcs] at rg
      have hl16 : cs.length = 16 := by rw [← hcs, Lib.byteCells_length, HC.out]
      have hu := Tryz.underlying112
      have hi : (Tryz.prog.info? 112).map (·.size) = some cs.length := by rw [← hcs]; exact secSizeL HC.out
      have h1 : ∀ v ∈ cs, v.oneCell' = true := by rw [← hcs]; exact Lib.byteCells_one _
      have HCS := Lib.hid hcs
      have TH := Lib.hid th; have C1 := Lib.hid c1; have RG := Lib.hid rg
      have HD5 := Lib.hid hD5; have HR5 := Lib.hid hR5; have HK5 := Lib.hid hk15
      clear hcs th rg hlen hD3 hD5 hR5 hk15 hk35 s5 k5 z5 S4 K4 HD3 HK3 HR3 hkn
      obtain ⟨n', hn'⟩ : ∃ n', S'.length = n' := ⟨_, rfl⟩
      rw [hn'] at C1 c1 b1
      go_wp2_with fail
      go_region_held3 (fun w' => w'.cell? ⟨d, 1, none⟩ = some (.slice (some ⟨s, 0, none⟩) n' n') ∧ w'.rangeAt q 0 cs ∧ w'.there s (k * 16) 16)
        (first | exact ⟨C1.out, RG.out, TH.out⟩ | exact ⟨(World.cell?_of_block (a := ⟨d, 1, none⟩) (heap_setCells_other s cs _ _ d hds)).trans C1.out, range_block RG.out (heap_setCells_other s cs _ _ q hqs'), World.there_setCells (w := w5.drew) TH.out _ _ _⟩)
        (fail)
      have hkd : KeptIn (· ≠ s) w5 (w5.drew.setCells s (k * 16) cs) := ((KeptIn.refl _ w5).drew).setCells (by simp) _ _
      have HJ2 : Hid (Safe w1 d m s b r N S M D (fun z => left z && !z.sameKey (.int .i64 (k : Int))) cnt3 (S'.set k c) (w5.drew.setCells s (k * 16) cs)) := by
        refine Lib.hid ⟨ranges_block HR5.out (hkd.block b HD5.out.ne_sb.symm) (hkd.block r (by omega)), ?_, by rw [List.length_set]; exact HJ.out.len, fun i hi' => ?_, ?_⟩
        · rw [← HCS.out]
          exact (HD5.out.kept (w' := w5.drew) ((KeptIn.refl (fun _ => True) w5).drew) trivial trivial trivial).put k (by have := HJ.out.len; have := HX.out.2; omega) _ HC.out
        · have hl := HJ.out.len
          by_cases e : i = k
          · subst e
            rw [List.getD_eq_getElem?_getD, List.getElem?_set_self (by omega)]
            have h0 : (left (.int .i64 (i : Int)) && !(Lit.int .i64 (i : Int)).sameKey (.int .i64 (i : Int))) = false := by simp [Lit.sameKey]
            simp only [h0]
            simp [now, HX.out.1]
          · have h0 : (Lit.int .i64 (i : Int)).sameKey (.int .i64 (k : Int)) = false := Maps.sameKey_ne (by simp; omega)
            rw [List.getD_eq_getElem?_getD, List.getElem?_set_ne (by omega), ← List.getD_eq_getElem?_getD, HJ.out.at' i hi']
            simp only [h0, Bool.not_false, Bool.and_true]
        · rw [hr]
          exact HK5.out.trans (hkd.mono fun j hj => hj.2)
      clear hkd HK5 HR5 HD5 RG C1 TH HCS c1 hi h1 hu hl16 hds hqs' b0 b1 HC HX HJ
      go_wp2_with fail
      go_roundw
      case rel => exact ⟨_, cnt3, _, _, rfl, HJ2⟩
      case measure => rw [HJ2.out.rng.left_eq, HRW.out.left_eq]; exact HLT.out

theorem dFlushOff (d m s b N : Nat) (p : Pw) (S : List (List UInt8)) (M : Int → Option (List UInt8)) (w : World) (h : IsD d m s b N S M w) (hp : IsP m p w) (hc : p.can = false) :
    Calls Tryz.prog 39 #[.pointer (some ⟨d, 0, none⟩)] w fun e w' => e = .returned (.int .i64 4) ∧ IsP m p.use w' ∧ KeptIn (· ≠ m) w w' := by
  have c0 := h.c0
  have HP := Lib.hid hp; have HC := Lib.hid hc
  clear h hp hc
  go_enter Tryz.func39, Tryz.ntmps39
  go_wp2_with (go_at_call 69; refine (mUseF m p _ HP.out HC.out).mono ?_)
  rintro e w1 ⟨rfl, hp1, hk1⟩
  have HR := Lib.hid (And.intro hp1 hk1)
  clear hp1 hk1
  go_wp2
  go_ret
  exact ⟨rfl, HR.out⟩

theorem dFlushNil (w : World) : Calls Tryz.prog 39 #[.pointer none] w fun e w' => e = .returned (.int .i64 2) ∧ w = w' := by
  go_enter Tryz.func39, Tryz.ntmps39
  go_wp2
  go_ret
  exact ⟨rfl, rfl⟩

end Go.Proofs.YtkgjmejgkffbdaaGreatDoor
/- disc's Write. -/
set_option linter.unusedVariables false
namespace Go.Proofs.YtkgjmejgkffbdaaGreatDoor
open Go.RowKit Go.Maps

/-- n uses, one behind the other, till one goes wrong: how many go well, and what is left of the power. -/
def Pw.go : Nat → Pw → Nat × Pw
  | 0, p => (0, p)
  | n + 1, p => if p.can then ((Pw.go n p.use).1 + 1, (Pw.go n p.use).2) else (0, p.use)

/-- k sectors of l, put from place x on. -/
def putN (M : Int → Option (List UInt8)) (x : Int) (l : List UInt8) : Nat → Int → Option (List UInt8)
  | 0 => M
  | j + 1 => putAt (putN M x l j) (x + j) (nth l j)

theorem putN_eq (M : Int → Option (List UInt8)) (x : Int) (l : List UInt8) (k : Nat) (y : Int) : putN M x l k y = if x ≤ y ∧ y < x + k then some (nth l (y - x).toNat) else M y := by
  induction k with
  | zero => simp [putN]; omega
  | succ k ih =>
    rw [putN, putAt, ih]
    by_cases h : y = x + k
    · rw [if_pos h, if_pos (by omega), show (y - x).toNat = k by omega]
    · rw [if_neg h]
      by_cases h2 : x ≤ y ∧ y < x + k
      · rw [if_pos h2, if_pos (by omega)]
      · rw [if_neg h2, if_neg (by omega)]

theorem dWriteNil (x : Int) (s : ByteArray) (w : World) : Calls Tryz.prog 37 #[.pointer none, .int .i64 x, .string s] w fun e w' => e = .returned (.int .i64 2) ∧ w = w' := by
  go_enter Tryz.func37, Tryz.ntmps37
  go_wp2
  go_ret
  exact ⟨rfl, rfl⟩

theorem dWriteArg (d : Nat) (x : Int) (l : List UInt8) (w : World) (hl : l.length ≤ maxLen) (h : l.length % 16 ≠ 0) :
    Calls Tryz.prog 37 #[.pointer (some ⟨d, 0, none⟩), .int .i64 x, .string ⟨l.toArray⟩] w fun e w' => e = .returned (.int .i64 1) ∧ w = w' := by
  unfold maxLen at hl
  have h1 : (l.length : Int) ≤ 9223372036854775807 := by omega
  have h2 : ¬ ((l.length : Int) % 16 = 0) := by omega
  clear hl h
  go_enter Tryz.func37, Tryz.ntmps37
  go_wp2
  go_ret
  exact ⟨rfl, rfl⟩

theorem dWriteRange (d m s b N : Nat) (S : List (List UInt8)) (M : Int → Option (List UInt8)) (x : Int) (l : List UInt8) (n : Nat) (w : World) (h : IsD d m s b N S M w) (hx : I64 x) (hl : l.length ≤ maxLen) (hn : l.length = 16 * n) (hf : fits S.length x n = false) :
    Calls Tryz.prog 37 #[.pointer (some ⟨d, 0, none⟩), .int .i64 x, .string ⟨l.toArray⟩] w fun e w' => e = .returned (.int .i64 9) ∧ w = w' := by
  unfold maxLen at hl
  have h1 : (l.length : Int) ≤ 9223372036854775807 := by omega
  have h2 : (l.length : Int) % 16 = 0 := by omega
  have h3 : (l.length : Int) / 16 = (n : Int) := by omega
  have HH : Hid (∀ V, V = w → Calls Tryz.prog 68 #[.pointer (some ⟨d, 0, none⟩), .int .i64 x, .int .i64 n] V fun e w' => e = .returned (.bool false) ∧ V = w') := Lib.hid fun V hV => by
    subst hV
    have := dHolds d m s b N S M V h x n hx (by constructor <;> omega)
    rwa [hf] at this
  clear hl h hn hf hx
  go_enter Tryz.func37, Tryz.ntmps37
  go_wp2_with (go_at_call 68; refine (HH.out _ rfl).mono ?_)
  rintro e w' ⟨rfl, rfl⟩
  go_wp2
  go_ret
  exact ⟨rfl, rfl⟩

/-- Between two rounds of Write's loop. -/
structure Wrote (w : World) (d m s b N : Nat) (S : List (List UInt8)) (M : Int → Option (List UInt8)) (x : Int) (l : List UInt8) (n : Nat) (p : Pw) (j : Nat) (q : Pw) (W : World) : Prop where
  isD : IsD d m s b (N + j) S (putN M x l j) W
  isP : IsP m q W
  run : Pw.go n p = (j + (Pw.go (n - j) q).1, (Pw.go (n - j) q).2)
  kept : KeptIn (fun k => k < w.heap.size ∧ k ≠ m ∧ k ≠ b) w W

set_option maxHeartbeats 1000000 in
set_option maxRecDepth 100000 in
theorem dWrite (d m s b N : Nat) (p : Pw) (S : List (List UInt8)) (M : Int → Option (List UInt8)) (x : Int) (l : List UInt8) (n : Nat) (w : World) (h : IsD d m s b N S M w) (hp : IsP m p w) (hl : l.length ≤ maxLen) (hn : l.length = 16 * n)
    (hf : fits S.length x n = true) (hN : N + n < maxLen) :
    Calls Tryz.prog 37 #[.pointer (some ⟨d, 0, none⟩), .int .i64 x, .string ⟨l.toArray⟩] w fun e w' => e = .returned (.int .i64 (if (Pw.go n p).1 = n then 0 else 4)) ∧
      IsD d m s b (N + n) S (putN M x l (Pw.go n p).1) w' ∧ IsP m (Pw.go n p).2 w' ∧ KeptIn (fun k => k < w.heap.size ∧ k ≠ m ∧ k ≠ b) w w' := by
  have hL := Lib.hid hl
  unfold maxLen at hl
  have hfit : 0 ≤ x ∧ x + n ≤ S.length := by
    simp only [fits, Bool.and_eq_true, decide_eq_true_eq] at hf
    omega
  have hmax := h.max
  have h1 : (l.length : Int) ≤ 9223372036854775807 := by omega
  have h2 : (l.length : Int) % 16 = 0 := by omega
  have h3 : (l.length : Int) / 16 = (n : Int) := by omega
  have HF := Lib.hid hfit
  have HL : Hid (l.length = 16 * n ∧ l.length ≤ maxLen ∧ S.length ≤ 16384 ∧ N + n < maxLen) := Lib.hid ⟨hn, hL.out, hmax, hN⟩
  have HH : Hid (∀ V, V = w → Calls Tryz.prog 68 #[.pointer (some ⟨d, 0, none⟩), .int .i64 x, .int .i64 n] V fun e w' => e = .returned (.bool true) ∧ V = w') := Lib.hid fun V hV => by
    subst hV
    have := dHolds d m s b N S M V h x n (by constructor <;> omega) (by constructor <;> omega)
    rwa [hf] at this
  have HJ0 : Hid (Wrote w d m s b N S M x l n p 0 p w) := Lib.hid ⟨h, hp, by simp, KeptIn.refl _ w⟩
  have hne := hp.1.ne h
  have HNE : Hid (m ≠ d ∧ m ≠ s ∧ m ≠ b ∧ d ≠ b ∧ s ≠ b) := Lib.hid ⟨hne.1, hne.2.1, hne.2.2, h.ne_db, h.ne_sb⟩
  clear hl h hp hn hf hfit hmax hne hL hN
  obtain ⟨g, hg⟩ : ∃ g, Pw.go n p = g := ⟨_, rfl⟩
  rw [hg]
  obtain ⟨ov, hov⟩ : ∃ ov : Int, (if g.1 = n then 0 else 4) = ov := ⟨_, rfl⟩
  rw [hov]
  have HG := Lib.hid hg; have HOV := Lib.hid hov
  clear hg hov
  go_enter Tryz.func37, Tryz.ntmps37
  go_wp2_with (go_at_call 68; refine (HH.out _ rfl).mono ?_)
  rintro e w' ⟨rfl, rfl⟩
  clear HH
  go_wp2_with fail
  go_loopw [25] (fun c wr => ∃ (j : Nat) (q : Pw) (W : World), W = wr ∧ j ≤ n ∧ c = .int .i64 j ∧ Hid (Wrote w d m s b N S M x l n p j q W)) (fun c _ => n - (RowKit.intOf c).toNat)
  case atStart => exact ⟨0, p, w, rfl, Nat.zero_le _, rfl, HJ0⟩
  case round =>
    obtain ⟨j, q, W, rfl, hj, rfl, HJ⟩ := hrel
    clear HJ0
    by_cases hlt : j < n
    · have b0 : (0 : Int) ≤ (j : Int) := by omega
      have b1 : (j : Int) < (n : Int) := by omega
      have c0 := HJ.out.isD.c0
      by_cases hc : q.can = true
      · have HC := Lib.hid hc; clear hc
        go_wp2_with (go_at_call 69; refine (mUseT m q _ HJ.out.isP HC.out).mono ?_)
        rintro e w1 ⟨rfl, hp1, hk1⟩
        obtain ⟨c, hcn⟩ : ∃ c, nth l j = c := ⟨_, rfl⟩
        have hc16 : c.length = 16 := by rw [← hcn]; exact nth_length l j (by have := HL.out.1; omega)
        have hD1 : IsD d m s b (N + j) S (putN M x l j) w1 := HJ.out.isD.kept hk1 HNE.out.1.symm HNE.out.2.1.symm HNE.out.2.2.1.symm
        have HD1 := Lib.hid hD1; have HP1 := Lib.hid hp1; have HK1 := Lib.hid hk1
        have c2 := hD1.c2
        have hltd := hD1.ltd; have hltb := hD1.ltb
        obtain ⟨y, hy⟩ : ∃ y : Int, x + (j : Int) = y := ⟨_, rfl⟩
        have hyb : 0 ≤ y ∧ y < S.length ∧ S.length ≤ 16384 := by have := HF.out; have := HL.out.2.2.1; omega
        have e1 : IntKind.i64.wrap (x + (j : Int)) = y := by rw [IntKind.wrap_i64]; omega
        have HY : Hid (x + (j : Int) = y ∧ 0 ≤ y ∧ y < S.length) := Lib.hid ⟨hy, hyb.1, hyb.2.1⟩
        have CS : Hid (∀ V, Calls Tryz.prog 53 #[.string ⟨l.toArray⟩, .int .i64 j] V fun e w' => e = .returned (secV c) ∧ KeptIn (· < V.heap.size) V w') := Lib.hid fun V =>
          (dSecOf l j V (by have := HL.out.1; omega) HL.out.2.1).mono fun e w' h => ⟨by rw [h.1, hcn], h.2.1⟩
        have hwf : (Lit.int .i64 y).wf = true := WalkArith.wf_i64 (by omega)
        have C2 := Lib.hid c2; have HCN := Lib.hid hcn; have HC16 := Lib.hid hc16; have HWF := Lib.hid hwf
        clear hp1 hk1 hD1 c0 hy hyb hcn hc16 hwf
        go_wp2_with fail
        go_region_held3 (fun w' => w'.cell? ⟨d, 2, none⟩ = some (.map (some b)))
          (first | exact C2.out | exact (World.cell?_of_block (a := ⟨d, 2, none⟩) (hk2.block d HNE.out.2.2.2.1)).trans ((World.cell?_of_block (a := ⟨d, 2, none⟩) (hk.block d hltd)).trans C2.out) | exact (World.cell?_of_block (a := ⟨d, 2, none⟩) (hk.block d hltd)).trans C2.out)
          (first | (go_at_call 53; refine (CS.out _).mono ?_; rintro e w' ⟨rfl, hk⟩; obtain ⟨w2, hrun, hm2, hk2, hz2⟩ := ((HD1.out.map.block (w' := w1.drew) rfl).kept hk hltb).store (by have := HL.out.2.2.2; omega) y HWF.out c HC16.out))
        have hkA : KeptIn (· < w1.heap.size) w1 w' := ⟨hk.os, hk.tape, hk.output, hk.size, hk.block⟩
        have hkB : KeptIn (fun k => k < w1.heap.size ∧ k ≠ b) w1 w2 := (hkA.mono fun k h => h.1).trans (hk2.mono fun k h => h.2)
        have HJ2 : Hid (Wrote w d m s b N S M x l n p (j + 1) q.use w2) := by
          have hlts := HD1.out.lts
          refine Lib.hid ⟨⟨(hkB.block d ⟨hltd, HNE.out.2.2.2.1⟩).trans HD1.out.hd, (hkB.block s ⟨hlts, HNE.out.2.2.2.2⟩).trans HD1.out.hs, ?_, HD1.out.len, HD1.out.max, ?_⟩, HP1.out.kept hkB ⟨HP1.out.lt, HNE.out.2.2.1⟩, ?_, ?_⟩
          · rw [putN, HY.out.1, HCN.out]
            exact hm2
          · intro z l' hz
            rw [putN, HY.out.1, putAt] at hz
            split at hz
            · rename_i e
              rw [e]; exact HY.out.2
            · exact HD1.out.dom z l' hz
          · have hr := HJ.out.run
            rw [show n - j = (n - (j + 1)) + 1 by omega, Pw.go, HC.out] at hr
            simp only [if_true] at hr
            rw [hr]
            congr 1
            omega
          · refine (HJ.out.kept.trans (HK1.out.mono fun k hk => hk.2.1)).trans (hkB.mono fun k hk => ⟨?_, hk.2.2⟩)
            exact Nat.lt_of_lt_of_le hk.1 (Nat.le_trans HJ.out.kept.size HK1.out.size)
        have hnn : n ≤ 16384 := by have := HF.out; have := HL.out.2.2.1; omega
        clear hkA hkB hk hk2 hz2 hm2 hrun HJ HD1 HP1 HK1 CS C2 HCN HC16 HWF HC HY c2 e1 hltd hltb
        go_wp2_with fail
        go_roundw
        case rel => exact ⟨j + 1, _, _, rfl, by omega, by go_num, HJ2⟩
        case measure => simp [RowKit.intOf]; omega
      · have hcf : q.can = false := by simpa using hc
        have HC := Lib.hid hcf; clear hc hcf
        go_wp2_with (go_at_call 69; refine (mUseF m q _ HJ.out.isP HC.out).mono ?_)
        rintro e w1 ⟨rfl, hp1, hk1⟩
        have hD1 : IsD d m s b (N + j) S (putN M x l j) w1 := HJ.out.isD.kept hk1 HNE.out.1.symm HNE.out.2.1.symm HNE.out.2.2.1.symm
        have hk := HJ.out.kept.trans (hk1.mono fun k hk => hk.2.1)
        have hr := HJ.out.run
        rw [show n - j = (n - (j + 1)) + 1 by omega, Pw.go, HC.out, HG.out] at hr
        simp only [Bool.false_eq_true, if_false, Nat.add_zero] at hr
        have HR : Hid (ov = 4 ∧ IsD d m s b (N + n) S (putN M x l g.1) w1 ∧ IsP m g.2 w1 ∧ KeptIn (fun k => k < w.heap.size ∧ k ≠ m ∧ k ≠ b) w w1) := Lib.hid (by
          have hov := HOV.out
          rw [hr] at hov ⊢
          rw [if_neg (by show ¬ j = n; omega)] at hov
          exact ⟨hov.symm, ⟨hD1.hd, hD1.hs, hD1.map.mono (by omega), hD1.len, hD1.max, hD1.dom⟩, hp1, hk⟩)
        clear hp1 hk1 hD1 hk hr HC HJ c0
        go_wp2
        go_ret
        exact ⟨by rw [HR.out.1]; rfl, HR.out.2⟩
    · obtain rfl : j = n := by omega
      have hr := HJ.out.run
      rw [Nat.sub_self, Pw.go, HG.out] at hr
      have HR : Hid (ov = 0 ∧ IsD d m s b (N + j) S (putN M x l g.1) W ∧ IsP m g.2 W ∧ KeptIn (fun k => k < w.heap.size ∧ k ≠ m ∧ k ≠ b) w W) := Lib.hid (by
        have hov := HOV.out
        rw [hr] at hov ⊢
        rw [if_pos (by rfl)] at hov
        exact ⟨hov.symm, HJ.out.isD, HJ.out.isP, HJ.out.kept⟩)
      clear hr HJ
      go_wp2
      go_ret
      exact ⟨by rw [HR.out.1]; rfl, HR.out.2⟩

end Go.Proofs.YtkgjmejgkffbdaaGreatDoor
