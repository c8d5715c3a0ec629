/- OwnersFree of layer 13: the mathematics; a round of it. -/
import Derived.Test.YtononiedecpllaaWz13
set_option linter.unusedVariables false
namespace Go.Proofs.Ytononiedecpllaa
open Go.RowKit Go.Maps Go.Sort

/-- All chunks that have or had owners are among so many. -/
def Cnt13 (f h : Int → List Ow) (k : Nat) : Prop := ∃ S : List Int, S.length ≤ k ∧ ∀ c, f c ≠ [] ∨ h c ≠ [] → c ∈ S
theorem Cnt13.add {f h : Int → List Ow} {k : Nat} (H : Cnt13 f h k) (c : Int) (o : Ow) : Cnt13 (addF f c o) h (k + 1) := by
  obtain ⟨S, h1, h2⟩ := H
  refine ⟨c :: S, by rw [List.length_cons]; omega, fun d hd => ?_⟩
  by_cases e : d = c
  · rw [e]; exact List.mem_cons_self
  · refine List.mem_cons_of_mem _ (h2 d ?_)
    rcases hd with hd | hd
    · refine .inl fun h0 => hd ?_
      unfold addF
      split
      · rw [setF_other _ _ e]; exact h0
      · exact h0
    · exact .inr hd
theorem Cnt13.rem {f h : Int → List Ow} {k : Nat} (H : Cnt13 f h k) (c : Int) (o : Ow) : Cnt13 (remF f c o) h (k + 1) := by
  obtain ⟨S, h1, h2⟩ := H
  refine ⟨S, by omega, fun d hd => h2 d ?_⟩
  rcases hd with hd | hd
  · refine .inl fun h0 => hd ?_
    unfold remF
    split
    · by_cases e : d = c
      · subst e
        rw [setF_same]
        rename_i ho
        rw [h0] at ho
        cases ho
      · rw [setF_other _ _ e]; exact h0
    · exact h0
  · exact .inr hd
theorem Cnt13.com {f h : Int → List Ow} {k : Nat} (H : Cnt13 f h k) : Cnt13 f f (k + 1) := by
  obtain ⟨S, h1, h2⟩ := H
  exact ⟨S, by omega, fun d hd => h2 d (.inl (hd.elim id id))⟩

/-- So few can't be all. -/
theorem few_miss : ∀ (n : Nat) (S : List Int), S.length < n → ∃ c : Int, 1 ≤ c ∧ c ≤ n ∧ c ∉ S := by
  intro n
  induction n with
  | zero => intro S h; omega
  | succ n ih =>
    intro S h
    by_cases hm : ((n : Int) + 1) ∈ S
    · obtain ⟨c, h1, h2, h3⟩ := ih (S.erase ((n : Int) + 1)) (by rw [List.length_erase_of_mem hm]; have := List.length_pos_of_mem hm; omega)
      refine ⟨c, h1, by omega, fun h4 => h3 ?_⟩
      exact (List.mem_erase_of_ne (by omega)).2 h4
    · exact ⟨(n : Int) + 1, by omega, by omega, hm⟩
theorem Cnt13.free {f h : Int → List Ow} {k : Nat} (H : Cnt13 f h k) (hk : k ≤ 1000) : ∃ m : Nat, freeN f h = (m : Int) ∧ 1 ≤ m ∧ m ≤ 1023 ∧ f (m : Int) = [] ∧ h (m : Int) = [] ∧ ∀ c : Int, 1 ≤ c → c < m → ¬ (f c = [] ∧ h c = []) := by
  obtain ⟨S, h1, h2⟩ := H
  rcases freeN_is f h with ⟨a1, a2, a3, a4⟩ | ⟨a1, a2⟩
  · refine ⟨(freeN f h).toNat, by omega, by omega, by omega, ?_, ?_, fun c b1 b2 => a4 c b1 (by omega)⟩
    · rw [show (((freeN f h).toNat : Nat) : Int) = freeN f h by omega]; exact a3.1
    · rw [show (((freeN f h).toNat : Nat) : Int) = freeN f h by omega]; exact a3.2
  · obtain ⟨c, b1, b2, b3⟩ := few_miss 1023 S (by omega)
    exfalso
    refine a2 c b1 (by omega) ⟨?_, ?_⟩
    · refine Classical.byContradiction fun h0 => b3 (h2 c (.inl h0))
    · refine Classical.byContradiction fun h0 => b3 (h2 c (.inr h0))
theorem free_taken {f h : Int → List Ow} {m : Int} {l : List Ow} (hl : l ≠ []) : freeN (setF f m l) h ≠ m ∨ ¬ (1 ≤ m) := by
  rcases freeN_is (setF f m l) h with ⟨a1, a2, a3, a4⟩ | ⟨a1, a2⟩
  · refine .inl fun e => ?_
    rw [e, setF_same] at a3
    exact hl a3.1
  · by_cases e : 1 ≤ m
    · exact .inl fun e2 => by omega
    · exact .inr e

/-- Who takes a free number. -/
theorem take_free {f h : Int → List Ow} {m : Nat} (o : Ow) (h1 : 1 ≤ m) (h2 : m ≤ 1023) (hf : f (m : Int) = []) (hh : h (m : Int) = []) :
    addE f m o = 0 ∧ addF f m o = setF f m [o] ∧ aloneB (setF f m [o]) h m o = true ∧ remE (setF f m [o]) m o = (true, 0) ∧ remF (setF f m [o]) m o = f ∧ freeN (setF f m [o]) h ≠ (m : Int) := by
  obtain ⟨e1, e2⟩ := addE_ok (f := f) (c := (m : Int)) (o := o) (by omega) (by omega) (by rw [hf]; simp)
  rw [hf, insO_nil] at e2
  refine ⟨e1, e2, ?_, ?_, ?_, ?_⟩
  · unfold aloneB; rw [setF_same, hh]; simp
  · unfold remE; rw [setF_same, if_pos (by simp), delO_one]; rfl
  · unfold remF; rw [setF_same, if_pos (by simp), delO_one, setF_back _ _ _ _ hf]
  · rcases free_taken (f := f) (h := h) (m := (m : Int)) (l := [o]) (by simp) with h3 | h3
    · exact h3
    · omega

/-- All but the first chunks of a row. -/
def clr (f : Int → List Ow) (ks : List Int) (i : Nat) : Int → List Ow := fun c => if c ∈ ks.take i then [] else f c
theorem clr_zero (f : Int → List Ow) (ks : List Int) : clr f ks 0 = f := by
  funext c
  unfold clr
  rw [if_neg (by simp)]
theorem clr_at {f : Int → List Ow} {ks : List Int} {i : Nat} {c : Int} (hn : ks.Nodup) (hc : ks[i]? = some c) : clr f ks i c = f c := by
  unfold clr
  rw [if_neg]
  intro hm
  obtain ⟨j, hj, e⟩ := List.getElem_of_mem hm
  rw [List.length_take] at hj
  rw [List.getElem_take] at e
  obtain ⟨h1, h2⟩ := List.getElem?_eq_some_iff.1 hc
  have := (List.nodup_iff_pairwise_ne.1 hn)
  have h3 := (List.pairwise_iff_getElem.1 this) j i (by omega) h1 (by omega)
  exact h3 (e.trans h2.symm)
theorem clr_succ {f : Int → List Ow} {ks : List Int} {i : Nat} {c : Int} (hc : ks[i]? = some c) : setF (clr f ks i) c [] = clr f ks (i + 1) := by
  obtain ⟨h1, h2⟩ := List.getElem?_eq_some_iff.1 hc
  funext d
  have hm : d ∈ ks.take (i + 1) ↔ d ∈ ks.take i ∨ d = c := by rw [List.take_succ_eq_append_getElem h1, h2, List.mem_append, List.mem_singleton]
  show (if d = c then [] else if d ∈ ks.take i then [] else f d) = if d ∈ ks.take (i + 1) then [] else f d
  by_cases e : d = c
  · rw [if_pos e, if_pos (hm.2 (.inr e))]
  · rw [if_neg e]
    by_cases e2 : d ∈ ks.take i
    · rw [if_pos e2, if_pos (hm.2 (.inl e2))]
    · rw [if_neg e2, if_neg (fun h => (hm.1 h).elim e2 e)]
theorem clr_all {f : Int → List Ow} (hr : ∀ c, f c ≠ [] → 1 ≤ c ∧ c ≤ 1023) : clr f (keysO f) (keysO f).length = fun _ => [] := by
  funext c
  unfold clr
  rw [List.take_length]
  by_cases e : f c = []
  · split
    · rfl
    · exact e
  · rw [if_pos]
    unfold keysO
    rw [mem_upTo, decide_eq_true_eq]
    have := hr c e
    exact ⟨by omega, by omega, e⟩
theorem keysO_mem {f : Int → List Ow} {c : Int} (h : c ∈ keysO f) : 0 ≤ c ∧ c < 1024 ∧ f c ≠ [] := by
  unfold keysO at h
  rw [mem_upTo, decide_eq_true_eq] at h
  exact ⟨h.1, h.2.1, h.2.2⟩
theorem keysO_nodup (f : Int → List Ow) : (keysO f).Nodup := (upTo_sorted _ _).imp fun {a b} h e => by omega
theorem keysO_none : keysO (fun _ => []) = [] := keysO_eq _ [] List.Pairwise.nil fun c => by simp
theorem free_none : freeN (fun _ => []) (fun _ => []) = 1 := (freeN_is _ _).uniq (.inl ⟨by omega, by omega, ⟨rfl, rfl⟩, fun c h1 h2 => by omega⟩)
theorem rem_head (g : Int → List Ow) (c : Int) (x : Ow) (r : List Ow) (h : g c = x :: r) : remE g c x = (decide (r = []), 0) ∧ remF g c x = setF g c r := by
  have e : delO (x :: r) x = r := by
    unfold delO
    rw [plO_cons, if_neg (ltO_irr x)]
    rfl
  unfold remE remF
  rw [h, if_pos (List.mem_cons_self ..), if_pos (List.mem_cons_self ..), e]
  exact ⟨rfl, rfl⟩

theorem intRow_at {W : World} {B n : Nat} {v : Value} {ks : List Int} (h : W.ownsRow B 3 1 v n (ks.map encZ)) {i : Nat} {c : Int} (hi : ks[i]? = some c) : ∃ g cap, v = .slice (some ⟨g, 0, none⟩) n cap ∧ B ≤ g ∧ g < W.heap.size ∧ W.cell? ⟨g, i, none⟩ = some (.int .i64 c) := by
  rcases h.2 with ⟨rfl, rfl⟩ | ⟨g, cap, cur, rfl, hB, hc, h1, h2, h3, h4⟩
  · have := h.1
    simp at this
    rw [this] at hi
    simp at hi
  · refine ⟨g, cap, rfl, hB, (Array.getElem?_eq_some_iff.1 hc).1, ?_⟩
    have e : (ks.map encZ)[i]? = some (.int .i64 c) := by rw [List.getElem?_map, hi]; rfl
    rw [← h4, List.getElem?_take] at e
    split at e
    · simp at e; simp [World.cell?, hc, e]
    · cases e

end Go.Proofs.Ytononiedecpllaa
