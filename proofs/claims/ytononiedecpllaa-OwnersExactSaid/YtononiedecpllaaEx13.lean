/- OwnersExact of layer 13: the book and the document's book side by side. -/
import Derived.Test.YtononiedecpllaaRt13
import Derived.Test.YtononiedecpllaaWf13
set_option linter.unusedVariables false
namespace Go.Proofs.Ytononiedecpllaa
open Go.RowKit

/-- The blocks of the document's book. -/
def XB (ub : Nat) (v1 v2 : Value) (X : Nat → Prop) (k : Nat) : Prop := (k = ub ∨ v1.ownBlock = some k ∨ v2.ownBlock = some k) ∨ X k
/-- A book that a law has made behind w1, the document's book beside it, other blocks of the law's in X. -/
structure Mx13 (w1 : World) (b ub : Nat) (f h : Int → List Ow) (L K : List On) (v1 v2 : Value) (X : Nat → Prop) (W : World) : Prop where
  bo : Bo w1 b f h (XB ub v1 v2 X) W
  hu : W.heap[ub]? = some (.cells #[v1, v2] 29 (0, 0))
  r1 : RowN W w1.heap.size v1 L
  r2 : RowN W w1.heap.size v2 K
  lo : w1.heap.size ≤ ub
  xl : ∀ k, X k → w1.heap.size ≤ k ∧ k < W.heap.size

section
variable {w1 : World} {b ub : Nat} {f h f' h' : Int → List Ow} {L K L' : List On} {v1 v2 v : Value} {X : Nat → Prop} {W W' : World}
theorem Mx13.rb (H : Mx13 w1 b ub f h L K v1 v2 X W) : RB w1.heap.size ub L K W := ⟨H.lo, v1, v2, H.hu, H.r1, H.r2⟩
theorem Mx13.lt (H : Mx13 w1 b ub f h L K v1 v2 X W) : ub < W.heap.size := (Array.getElem?_eq_some_iff.1 H.hu).1
theorem Mx13.ne1 (H : Mx13 w1 b ub f h L K v1 v2 X W) : v1.ownBlock ≠ some ub := fun e => by
  obtain ⟨cur, hc⟩ := H.r1.typ e
  have := H.hu.symm.trans hc
  simp at this
theorem Mx13.ne2 (H : Mx13 w1 b ub f h L K v1 v2 X W) : v2.ownBlock ≠ some ub := fun e => by
  obtain ⟨cur, hc⟩ := H.r2.typ e
  have := H.hu.symm.trans hc
  simp at this
theorem Mx13.xb (H : Mx13 w1 b ub f h L K v1 v2 X W) : ∀ k, XB ub v1 v2 X k → w1.heap.size ≤ k ∧ k < W.heap.size := by
  rintro k ((rfl | e | e) | e)
  · exact ⟨H.lo, H.lt⟩
  · exact H.r1.lt e
  · exact H.r2.lt e
  · exact H.xl k e
theorem Mx13.old (H : Mx13 w1 b ub f h L K v1 v2 X W) (hk : KeptIn (· < W.heap.size) W W') : Mx13 w1 b ub f h L K v1 v2 X W' :=
  ⟨H.bo.old hk, (hk.block ub H.lt).trans H.hu, H.r1.old hk, H.r2.old hk, H.lo, fun k hk' => ⟨(H.xl k hk').1, Nat.lt_of_lt_of_le (H.xl k hk').2 hk.size⟩⟩
theorem Mx13.more (H : Mx13 w1 b ub f h L K v1 v2 X W) (hk : KeptIn (· < W.heap.size) W W') (X' : Nat → Prop) (hX' : ∀ k, X' k → X k ∨ (W.heap.size ≤ k ∧ k < W'.heap.size)) : Mx13 w1 b ub f h L K v1 v2 X' W' := by
  refine ⟨H.bo.more hk _ fun k hk' => ?_, (hk.block ub H.lt).trans H.hu, H.r1.old hk, H.r2.old hk, H.lo, fun k hk' => ?_⟩
  · rcases hk' with h1 | h1
    · exact .inl (.inl h1)
    · exact (hX' k h1).imp .inr id
  · rcases hX' k hk' with h1 | h1
    · exact ⟨(H.xl k h1).1, Nat.lt_of_lt_of_le (H.xl k h1).2 hk.size⟩
    · exact ⟨Nat.le_trans H.bo.kept.size h1.1, h1.2⟩
theorem Mx13.weak (H : Mx13 w1 b ub f h L K v1 v2 X W) (X' : Nat → Prop) (hX' : ∀ k, X' k → X k) : Mx13 w1 b ub f h L K v1 v2 X' W := H.more (KeptIn.refl _ W) X' fun k hk => .inl (hX' k hk)
/-- A deed of the book. -/
theorem Mx13.did {e : Ending} (H : Mx13 w1 b ub f h L K v1 v2 X W) (hd : DoS w1 b f' h' (XB ub v1 v2 X) W v e W') : e = .returned v ∧ Mx13 w1 b ub f' h' L K v1 v2 X W' ∧ KeptIn X W W' := by
  obtain ⟨rfl, hb, hk⟩ := hd
  exact ⟨rfl, ⟨hb, (hk.block ub (.inl (.inl rfl))).trans H.hu, H.r1.kept hk fun g e => .inl (.inr (.inl e)), H.r2.kept hk fun g e => .inl (.inr (.inr e)), H.lo, fun k hk' => ⟨(H.xl k hk').1, Nat.lt_of_lt_of_le (H.xl k hk').2 hk.size⟩⟩, hk.mono fun k h => .inr h⟩

theorem cells_set0 {W : World} {ub : Nat} {v1 v2 v : Value} {t : TypeId} (h : W.heap[ub]? = some (.cells #[v1, v2] t (0, 0))) : (W.setCell ⟨ub, 0, none⟩ v).heap[ub]? = some (.cells #[v, v2] t (0, 0)) := by
  obtain ⟨hlt, hk⟩ := Array.getElem?_eq_some_iff.1 h
  show (W.heap.modify ub _)[ub]? = _
  rw [Array.getElem?_eq_getElem (by rw [Array.size_modify]; exact hlt), Array.getElem_modify_self, hk]
  rfl
theorem cells_set1 {W : World} {ub : Nat} {v1 v2 v : Value} {t : TypeId} (h : W.heap[ub]? = some (.cells #[v1, v2] t (0, 0))) : (W.setCell ⟨ub, 1, none⟩ v).heap[ub]? = some (.cells #[v1, v] t (0, 0)) := by
  obtain ⟨hlt, hk⟩ := Array.getElem?_eq_some_iff.1 h
  show (W.heap.modify ub _)[ub]? = _
  rw [Array.getElem?_eq_getElem (by rw [Array.size_modify]; exact hlt), Array.getElem_modify_self, hk]
  rfl

/-- A new row instead of the first. -/
theorem Mx13.set0 (H : Mx13 w1 b ub f h L K v1 v2 X W) (hX : ¬ X ub) (hk : KeptIn (· < W.heap.size) W W') (hr : RowN W' W.heap.size v L') : Mx13 w1 b ub f h L' K v v2 X (W'.setCell ⟨ub, 0, none⟩ v) ∧ KeptIn X W (W'.setCell ⟨ub, 0, none⟩ v) := by
  have H' := H.old hk
  have hs : KeptIn (fun k => k ≠ ub) W' (W'.setCell ⟨ub, 0, none⟩ v) := (KeptIn.refl _ W').setCell (p := ⟨ub, 0, none⟩) (by simp) _
  have hne : v.ownBlock ≠ some ub := fun e => by have := (hr.lt e).1; have := H.lt; omega
  have hw := H.bo.kept.size
  have hb := H.bo.more hk (XB ub v v2 X) fun k hk' => by
    rcases hk' with (e | e | e) | e
    · exact .inl (.inl (.inl e))
    · exact .inr (hr.lt e)
    · exact .inl (.inl (.inr (.inr e)))
    · exact .inl (.inr e)
  refine ⟨⟨hb.set (hs.mono fun k hx e => hx (.inl (.inl e))) fun k hk' => ?_, cells_set0 H'.hu, (hr.mono hw).kept hs fun g e e2 => hne (e2 ▸ e), H'.r2.kept hs fun g e e2 => H'.ne2 (e2 ▸ e), H.lo, fun k hk' => ⟨(H.xl k hk').1, by rw [show (W'.setCell ⟨ub, 0, none⟩ v).heap.size = W'.heap.size by simp [World.setCell]]; exact (H'.xl k hk').2⟩⟩, ?_⟩
  · rcases hk' with (e | e | e) | e
    · rw [e]; exact H.lo
    · exact Nat.le_trans hw (hr.lt e).1
    · exact (H.r2.lt e).1
    · exact (H.xl k e).1
  · exact (hk.mono fun k hx => (H.xl k hx).2).trans (hs.mono fun k hx e => hX (e ▸ hx))
/-- .. the second. -/
theorem Mx13.set1 (H : Mx13 w1 b ub f h L K v1 v2 X W) (hX : ¬ X ub) (hk : KeptIn (· < W.heap.size) W W') (hr : RowN W' W.heap.size v L') : Mx13 w1 b ub f h L L' v1 v X (W'.setCell ⟨ub, 1, none⟩ v) ∧ KeptIn X W (W'.setCell ⟨ub, 1, none⟩ v) := by
  have H' := H.old hk
  have hs : KeptIn (fun k => k ≠ ub) W' (W'.setCell ⟨ub, 1, none⟩ v) := (KeptIn.refl _ W').setCell (p := ⟨ub, 1, none⟩) (by simp) _
  have hne : v.ownBlock ≠ some ub := fun e => by have := (hr.lt e).1; have := H.lt; omega
  have hw := H.bo.kept.size
  have hb := H.bo.more hk (XB ub v1 v X) fun k hk' => by
    rcases hk' with (e | e | e) | e
    · exact .inl (.inl (.inl e))
    · exact .inl (.inl (.inr (.inl e)))
    · exact .inr (hr.lt e)
    · exact .inl (.inr e)
  refine ⟨⟨hb.set (hs.mono fun k hx e => hx (.inl (.inl e))) fun k hk' => ?_, cells_set1 H'.hu, H'.r1.kept hs fun g e e2 => H'.ne1 (e2 ▸ e), (hr.mono hw).kept hs fun g e e2 => hne (e2 ▸ e), H.lo, fun k hk' => ⟨(H.xl k hk').1, by rw [show (W'.setCell ⟨ub, 1, none⟩ v).heap.size = W'.heap.size by simp [World.setCell]]; exact (H'.xl k hk').2⟩⟩, ?_⟩
  · rcases hk' with (e | e | e) | e
    · rw [e]; exact H.lo
    · exact (H.r1.lt e).1
    · exact Nat.le_trans hw (hr.lt e).1
    · exact (H.xl k e).1
  · exact (hk.mono fun k hx => (H.xl k hx).2).trans (hs.mono fun k hx e => hX (e ▸ hx))
end

/-- What is known of the two. -/
def Pu13 (f h : Int → List Ow) (L K : List On) (j : Nat) : Prop := (∀ c, f c = ofN L c) ∧ (∀ c, h c = ofN K c) ∧ SrtN L ∧ (∀ x ∈ L, 1 ≤ x.ch ∧ x.ch ≤ 1023) ∧ L.length ≤ j ∧ K.length ≤ j
section
variable {f h : Int → List Ow} {L K : List On} {j : Nat}
theorem Pu13.zero : Pu13 (fun _ => []) (fun _ => []) [] [] 0 := ⟨fun _ => rfl, fun _ => rfl, List.Pairwise.nil, fun _ h => (by cases h), Nat.le_refl _, Nat.le_refl _⟩
theorem Pu13.mono {k : Nat} (H : Pu13 f h L K j) (hk : j ≤ k) : Pu13 f h L K k := ⟨H.1, H.2.1, H.2.2.1, H.2.2.2.1, Nat.le_trans H.2.2.2.2.1 hk, Nat.le_trans H.2.2.2.2.2 hk⟩
theorem Pu13.le (H : Pu13 f h L K j) (c : Int) : (f c).length ≤ j := by rw [H.1 c]; exact Nat.le_trans (ofN_length _ _) H.2.2.2.2.1
theorem Pu13.mem (H : Pu13 f h L K j) (c : Int) (o : Ow) : o ∈ f c ↔ (⟨c, o⟩ : On) ∈ L := by rw [H.1 c, mem_ofN]
theorem Pu13.addArg (H : Pu13 f h L K j) (c : Int) (o : Ow) (hc : c < 1 ∨ 1023 < c) : addE f c o = 1 ∧ Pu13 (addF f c o) h L K (j + 1) := by
  have e : addE f c o = 1 := if_pos hc
  refine ⟨e, ?_⟩
  have e2 : addF f c o = f := by unfold addF; rw [e]; rfl
  rw [e2]
  exact H.mono (by omega)
theorem Pu13.addDup (H : Pu13 f h L K j) (c : Int) (o : Ow) (h1 : 1 ≤ c) (h2 : c ≤ 1023) (ho : (⟨c, o⟩ : On) ∈ L) : addE f c o = 8 ∧ Pu13 (addF f c o) h L K (j + 1) := by
  have e : addE f c o = 8 := by unfold addE; rw [if_neg (by omega), if_pos ((H.mem c o).2 ho)]
  refine ⟨e, ?_⟩
  have e2 : addF f c o = f := by unfold addF; rw [e]; rfl
  rw [e2]
  exact H.mono (by omega)
theorem Pu13.addOk (H : Pu13 f h L K j) (c : Int) (o : Ow) (h1 : 1 ≤ c) (h2 : c ≤ 1023) (ho : (⟨c, o⟩ : On) ∉ L) : addE f c o = 0 ∧ Pu13 (addF f c o) h (insN L ⟨c, o⟩) K (j + 1) := by
  obtain ⟨e, e2⟩ := addE_ok (f := f) (c := c) (o := o) h1 h2 (fun h => ho ((H.mem c o).1 h))
  refine ⟨e, ?_⟩
  have hf : f = ofN L := funext H.1
  rw [e2]
  refine ⟨fun d => ?_, H.2.1, srt_insN H.2.2.1 ho, fun x hx => ?_, by rw [insN_length]; have := H.2.2.2.2.1; omega, Nat.le_succ_of_le H.2.2.2.2.2⟩
  · rw [ofN_ins H.2.2.1 ho d, hf]
  · rcases mem_insN.1 hx with rfl | hx
    · exact ⟨h1, h2⟩
    · exact H.2.2.2.1 x hx
theorem Pu13.remMiss (H : Pu13 f h L K j) (c : Int) (o : Ow) (ho : (⟨c, o⟩ : On) ∉ L) : remE f c o = (false, 7) ∧ Pu13 (remF f c o) h L K (j + 1) := by
  have hm : o ∉ f c := fun h => ho ((H.mem c o).1 h)
  refine ⟨if_neg hm, ?_⟩
  have e2 : remF f c o = f := if_neg hm
  rw [e2]
  exact H.mono (by omega)
theorem Pu13.remOk (H : Pu13 f h L K j) (c : Int) (o : Ow) (ho : (⟨c, o⟩ : On) ∈ L) : remE f c o = (decide ((ofN (remN L ⟨c, o⟩) c).length = 0), 0) ∧ Pu13 (remF f c o) h (remN L ⟨c, o⟩) K (j + 1) := by
  have hm : o ∈ f c := (H.mem c o).2 ho
  have hf : f = ofN L := funext H.1
  refine ⟨?_, ?_⟩
  · have e1 : remE f c o = (decide (delO (f c) o = []), 0) := if_pos hm
    rw [e1, ofN_rem H.2.2.1 ho c, setF_same, H.1 c]
    exact congrArg (fun t => (t, (0 : Int))) (decide_eq_decide.2 List.length_eq_zero_iff.symm)
  · have e2 : remF f c o = setF f c (delO (f c) o) := if_pos hm
    rw [e2]
    refine ⟨fun d => ?_, H.2.1, srt_remN H.2.2.1 _, fun x hx => H.2.2.2.1 x (mem_remN.1 hx).1, Nat.le_succ_of_le (Nat.le_trans (remN_length _ _) H.2.2.2.2.1), Nat.le_succ_of_le H.2.2.2.2.2⟩
    rw [ofN_rem H.2.2.1 ho d, hf]
theorem Pu13.com (H : Pu13 f h L K j) : Pu13 f f L L (j + 1) := ⟨H.1, H.1, H.2.2.1, H.2.2.2.1, Nat.le_succ_of_le H.2.2.2.2.1, Nat.le_succ_of_le H.2.2.2.2.1⟩
theorem Pu13.fn (H : Pu13 f h L K j) : f = ofN L ∧ h = ofN K := ⟨funext H.1, funext H.2.1⟩
end

end Go.Proofs.Ytononiedecpllaa
