import Derived.Test.YtkgjmejgkffbdaaGreatDoorIv7K
import Derived.Deep.AppendLies
/- Rows that a law of layer 7 makes: they lie in none of a store's blocks; pages told by their places. -/
set_option linter.unusedVariables false
namespace Go.Proofs.YtkgjmejgkffbdaaGreatDoor
open Go.RowKit

section
variable {A : Ad} {N : Nat} {p : Pw} {S : List (List UInt8)} {M : Int → Option (List UInt8)} {h : Hd} {a : Nat} {P : List Pag} {W W' : World}
theorem cells_apart (k : Sv A N p S M h a P W) {g : Nat} {cs : Array Value} {T : TypeId} {fr : Nat × Nat} (hg : W.heap[g]? = some (.cells cs T fr)) (h1 : T ≠ 91) (h2 : T ≠ 80) (h3 : T ≠ 112) (h4 : T ≠ 95) (h5 : T ≠ 98) : ¬ A.has g := by
  have key : ∀ {x : Nat} {c : Array Value} {t : TypeId} {f : Nat × Nat}, W.heap[x]? = some (.cells c t f) → T ≠ t → g ≠ x := fun hx ht e => by
    rw [← e, hg] at hx
    simp only [Option.some.injEq, Obj.cells.injEq] at hx
    exact ht hx.2.1
  have hm : W.heap[A.m]? = _ := k.isP.1
  rintro (e | e | e | e | e | e)
  · exact key k.isD.hd h1 e
  · exact key hm h2 e
  · exact key k.isD.hs h3 e
  · exact k.isD.map.ne hg e
  · exact key k.isS.hs h4 e
  · exact key k.isS.hp h5 e

theorem rowT_cells {w : World} {B n s : Nat} {T : TypeId} {v : Value} {xs : List Value} (h : w.ownsRow B T s v n xs) (g : Nat) (e : v.ownBlock = some g) : ∃ cur, w.heap[g]? = some (.cells cur T (0, 0)) ∧ B ≤ g := by
  rcases h.2 with ⟨rfl, _⟩ | ⟨g', cap, cur, rfl, hB, hg, _⟩
  · cases e
  · simp only [Value.ownBlock, Option.some.injEq] at e
    subst e
    exact ⟨cur, hg, hB⟩
theorem rowT_block {w w' : World} {B n s : Nat} {T : TypeId} {v : Value} {xs : List Value} (h : w.ownsRow B T s v n xs) (hb : ∀ g, v.ownBlock = some g → w'.heap[g]? = w.heap[g]?) : w'.ownsRow B T s v n xs := by
  refine ⟨h.1, ?_⟩
  rcases h.2 with h1 | ⟨g, cap, cur, rfl, hg, hb', r⟩
  · exact .inl h1
  · exact .inr ⟨g, cap, cur, rfl, hg, (hb g rfl).trans hb', r⟩
theorem rowT_old {w w' : World} {B n s : Nat} {T : TypeId} {v : Value} {xs : List Value} (h : w.ownsRow B T s v n xs) (hk : KeptIn (· < w.heap.size) w w') : w'.ownsRow B T s v n xs :=
  rowT_block h fun g e => by
    obtain ⟨cur, hc, _⟩ := rowT_cells h g e
    exact hk.block g (Array.getElem?_eq_some_iff.1 hc).1
theorem rowT_fr (k : Sv A N p S M h a P W) {B n s : Nat} {T : TypeId} {v : Value} {xs : List Value} (hr : W.ownsRow B T s v n xs) (hf : Fr A W W') (h1 : T ≠ 91) (h2 : T ≠ 80) (h3 : T ≠ 112) (h4 : T ≠ 95) (h5 : T ≠ 98) : W'.ownsRow B T s v n xs :=
  rowT_block hr fun g e => by
    obtain ⟨cur, hc, _⟩ := rowT_cells hr g e
    exact hf.block g ⟨(Array.getElem?_eq_some_iff.1 hc).1, cells_apart k hc h1 h2 h3 h4 h5⟩

/-- Where a row that the law made grows, the store stands. -/
theorem sv_grown (k : Sv A N p S M h a P W) {B n s : Nat} {T : TypeId} {v : Value} {xs : List Value} (hr : W.ownsRow B T s v n xs) (o : Obj) (hg : (W.alloc o).grownBy W' v.ownBlock) (h1 : T ≠ 91) (h2 : T ≠ 80) (h3 : T ≠ 112) (h4 : T ≠ 95) (h5 : T ≠ 98) : Sv A N p S M h a P W' := by
  have hne : ∀ k, A.has k → some k ≠ v.ownBlock := fun j hj e => by
    obtain ⟨cur, hc, _⟩ := rowT_cells hr j e.symm
    exact cells_apart k hc h1 h2 h3 h4 h5 hj
  have hk8 : KeptIn (fun j => A.has j) W W' := ⟨hg.os, hg.tape, hg.output, Nat.le_trans (by simp) hg.size, fun j hj => (hg.block j (by have := k.lts j hj; simp; omega) (hne j hj)).trans (Lib.alloc_old _ _ _ (k.lts j hj))⟩
  exact ⟨k.isD.kept hk8 (.inl rfl) (.inr (.inr (.inl rfl))) (.inr (.inr (.inr (.inl rfl)))), k.isP.kept hk8 (.inr (.inl rfl)), k.isS.kept hk8 (.inr (.inr (.inr (.inr (.inl rfl))))) (.inr (.inr (.inr (.inr (.inr rfl))))), k.len, k.two, k.good, k.ha, k.sts, k.txs⟩
theorem kept_grown {V : World} {B n s : Nat} {T : TypeId} {v : Value} {xs : List Value} (hr : W.ownsRow V.heap.size T s v n xs) (hk : KeptIn (· < V.heap.size) V W) (o : Obj) (hg : (W.alloc o).grownBy W' v.ownBlock) : KeptIn (· < V.heap.size) V W' :=
  (hk.alloc (fun _ h => h) _).grown (fun _ h => h) hg (fun g' hg' hlt' => by
    obtain ⟨cur, hc, hB⟩ := rowT_cells hr g' hg'
    omega)

/-- A row of integers that the law made, as a slice that comes in. -/
theorem ints_row (k : Sv A N p S M h a P W) {B : Nat} {v : Value} {zs : List Int} (hr : W.ownsRow B 3 1 v zs.length (zs.map encZ)) (hwf : ∀ x ∈ zs, I64 x) : ∃ c cap, v = .slice c zs.length cap ∧ IntsIn A W c zs := by
  rcases hr.2 with ⟨rfl, h0⟩ | ⟨g, cap, cur, rfl, hB, hg, hc, hm, hs, ht⟩
  · exact ⟨none, 0, by rw [h0], by rw [h0]; exact Nat.zero_le _, hwf, fun hp => by omega⟩
  · refine ⟨some ⟨g, 0, none⟩, cap, rfl, Nat.le_trans hc hm, hwf, fun hp => ⟨g, 0, rfl, (Array.getElem?_eq_some_iff.1 hg).1, cells_apart k hg (by decide) (by decide) (by decide) (by decide) (by decide), fun i hi => ?_⟩⟩
    rw [cell_of_row _ _ _ _ _ _ hg, Nat.zero_add]
    have h1 : (cur.toList.take (zs.length * 1))[i]? = some (.int .i64 (zs.getD i 0)) := by
      rw [ht, List.getElem?_map, List.getD_eq_getElem?_getD, List.getElem?_eq_getElem hi]
      rfl
    rw [List.getElem?_take_of_lt (by omega)] at h1
    simpa using h1
end

/-- The numbers from 1 to i. -/
def upTo (i : Nat) : List Int := (List.range i).map fun j : Nat => ((j + 1 : Nat) : Int)
theorem upTo_length (i : Nat) : (upTo i).length = i := by simp [upTo]
theorem upTo_succ (i : Nat) : upTo (i + 1) = upTo i ++ [((i + 1 : Nat) : Int)] := by simp [upTo, List.range_succ]
theorem upTo_at (i j : Nat) (h : j < i) : (upTo i).getD j 0 = ((j + 1 : Nat) : Int) := by
  rw [List.getD_eq_getElem?_getD, upTo, List.getElem?_map, List.getElem?_range h]
  rfl
theorem upTo_mem (i q : Nat) : (q : Int) ∈ upTo i ↔ 1 ≤ q ∧ q ≤ i := by
  simp only [upTo, List.mem_map, List.mem_range]
  constructor
  · rintro ⟨j, hj, e⟩; omega
  · rintro ⟨h1, h2⟩; exact ⟨q - 1, by omega, by omega⟩
theorem upTo_wf (i : Nat) (hi : i ≤ 1000000) : ∀ x ∈ upTo i, I64 x := fun x hx => by
  simp only [upTo, List.mem_map, List.mem_range] at hx
  obtain ⟨j, hj, rfl⟩ := hx
  constructor <;> omega

/-- Pages of which those from 1 to n are committed, f behind them new. -/
structure ShP (n f : Nat) (P : List Pag) : Prop where
  len : P.length = 20
  st : ∀ q, q < 20 → stOf P q = if 1 ≤ q ∧ q ≤ n then 2 else if n < q ∧ q ≤ n + f then 1 else 0

theorem ShP.free {n f : Nat} {P : List Pag} (k : ShP n f P) (h : n + f < 19) : freeP P = some (n + f + 1) :=
  freeP_is (by omega) (by rw [k.len]; omega) (by rw [k.st _ (by omega), if_neg (by omega), if_neg (by omega)]) fun r h1 h2 => by
    rw [k.st r (by omega)]
    by_cases e : r ≤ n
    · rw [if_pos ⟨h1, e⟩]; decide
    · rw [if_neg (by omega), if_pos (by omega)]; decide
theorem ShP.full {n f : Nat} {P : List Pag} (k : ShP n f P) (h : n + f = 19) : freeP P = none := by
  cases hf : freeP P with
  | none => rfl
  | some q =>
    obtain ⟨h1, h2, h3⟩ := freeP_some hf
    rw [k.len] at h2
    rw [k.st q h2] at h3
    by_cases e : q ≤ n
    · rw [if_pos ⟨h1, e⟩] at h3; cases h3
    · rw [if_neg (by omega), if_pos (by omega)] at h3; cases h3
theorem ShP.add {n f : Nat} {P : List Pag} (k : ShP n f P) (h : n + f < 19) (t : List UInt8) : ShP n (f + 1) (P.set (n + f + 1) (1, t)) := by
  refine ⟨by rw [List.length_set]; exact k.len, fun q hq => ?_⟩
  rw [stOf_set _ _ _ _ (by rw [k.len]; omega), k.st q hq]
  by_cases e : q = n + f + 1
  · rw [if_pos e, if_neg (by omega), if_pos (by omega)]
  · rw [if_neg e]
    by_cases e1 : 1 ≤ q ∧ q ≤ n
    · rw [if_pos e1, if_pos e1]
    · rw [if_neg e1, if_neg e1]
      by_cases e2 : n < q ∧ q ≤ n + f
      · rw [if_pos e2, if_pos (by omega)]
      · rw [if_neg e2, if_neg (by omega)]
theorem ShP.sweep {n f : Nat} {P : List Pag} (k : ShP n f P) : ShP n 0 (sweepP P []) := by
  refine ⟨by rw [sweepP_length]; exact k.len, fun q hq => ?_⟩
  rw [sweepP_st, k.st q hq]
  by_cases e1 : 1 ≤ q ∧ q ≤ n
  · rw [if_pos e1, if_pos e1]
    rfl
  · rw [if_neg e1, if_neg e1]
    by_cases e2 : n < q ∧ q ≤ n + f
    · rw [if_pos e2, if_pos ⟨rfl, fun h => by cases h.2⟩, if_neg (by omega)]
    · rw [if_neg e2, if_neg (fun h => by cases h.1), if_neg (by omega)]
theorem ShP.cnt0 {n f : Nat} {P : List Pag} (k : ShP n f P) (h : n + f ≤ 19) : cntS P 0 = 19 - n - f := by
  have hc : ∀ q, 1 ≤ q → q < 20 → decide (stOf P q = 0) = (decide (n + f + 1 ≤ q) && decide (q < 20)) := fun q q1 q2 => by
    rw [k.st q q2]
    by_cases e1 : 1 ≤ q ∧ q ≤ n
    · rw [if_pos e1]; simp; omega
    · rw [if_neg e1]
      by_cases e2 : n < q ∧ q ≤ n + f
      · rw [if_pos e2]; simp; omega
      · rw [if_neg e2]; simp; omega
  unfold cntS
  rw [k.len, cntB_congr hc, cntB_between _ _ _ (by omega) (by omega)]
  omega
theorem ShP.cnt1 {n f : Nat} {P : List Pag} (k : ShP n f P) (h : n + f ≤ 19) : cntS P 1 = f := by
  have hc : ∀ q, 1 ≤ q → q < 20 → decide (stOf P q = 1) = (decide (n + 1 ≤ q) && decide (q < n + f + 1)) := fun q q1 q2 => by
    rw [k.st q q2]
    by_cases e1 : 1 ≤ q ∧ q ≤ n
    · rw [if_pos e1]; simp; omega
    · rw [if_neg e1]
      by_cases e2 : n < q ∧ q ≤ n + f
      · rw [if_pos e2]; simp; omega
      · rw [if_neg e2]; simp; omega
  unfold cntS
  rw [k.len, cntB_congr hc, cntB_between _ _ _ (by omega) (by omega)]
  omega
theorem noP_sh : ShP 0 0 (noP 20) := ⟨noP_length 20, fun q hq => by rw [noP_st, if_neg (by omega), if_neg (by omega)]⟩

/-- Behind a Commit of the first n, which are new. -/
theorem ShP.commit {n : Nat} {P : List Pag} (k : ShP 0 n P) (hn : n ≤ 19) : ShP n 0 (sweepP (keepP P (upTo n)) []) := by
  refine ⟨by rw [commit_length]; exact k.len, fun q hq => ?_⟩
  have h2 : stOf P q ≤ 2 := by
    rw [k.st q hq]
    split
    · exact Nat.le_refl _
    · split <;> decide
  rw [commit_st P (upTo n) q h2, k.len]
  by_cases e : 1 ≤ q ∧ q ≤ n
  · rw [if_pos ⟨hq, e.1, (upTo_mem n q).2 e⟩, if_pos e]
  · rw [if_neg (fun h => e ((upTo_mem n q).1 h.2.2)), if_neg e, if_neg (by omega)]
theorem ShP.may {n : Nat} {P : List Pag} (k : ShP 0 n P) (h1 : 1 ≤ n) (hn : n ≤ 19) (h : Hd) (hg : goodH (nextH h 1) = true) : mayC h P 1 (upTo n) = true := by
  have hu : (upTo n).all (usedB P) = true := by
    rw [List.all_eq_true]
    intro x hx
    have hx' := hx
    simp only [upTo, List.mem_map, List.mem_range] at hx'
    obtain ⟨j, hj, rfl⟩ := hx'
    exact usedB_of (by omega) (by rw [k.len]; omega) (by rw [k.st _ (by omega), if_neg (by omega), if_pos (by omega)]; decide)
  unfold mayC
  rw [hg, hu, decide_eq_true (.inr ((upTo_mem n 1).2 ⟨Nat.le_refl _, h1⟩))]
  rfl

/-- A Commit whose power is sure. -/
theorem commS_sure {A : Ad} {w w' : World} {p : Pw} {S : List (List UInt8)} {h : Hd} {a : Nat} {P : List Pag} {root : Int} {l : List Int} {e : Ending} (k : CommS A w p S h a P root l e w') (hs : p.sure) :
    e = .returned (.int .i64 0) ∧ ∃ p1 S1, Sv A 0 p1 S1 (fun _ => none) (nextH h root) (1 - a) (sweepP (keepP P l) []) w' ∧ Fr A w w' ∧ p1.sure ∧ S1.length = S.length ∧
      (∀ x, x < S.length → x ≠ 1 - a → ¬ inNewI P l x → S1.getD x [] = S.getD x []) ∧ S1.getD (1 - a) [] = bytesH (nextH h root) ∧ (∀ q : Nat, (q : Int) ∈ l → stOf P q = 1 → ∀ i, i < 16 → S1.getD (16 * q + i) [] = nth (txOf P q) i) := by
  obtain ⟨e1, N1, p1, S1, M1, h1, a1, P2, rfl, hv, hf, hN, hl, ho, hs'⟩ := k
  obtain ⟨rfl, hs1⟩ := hs' hs
  obtain rfl : N1 = 0 := hN rfl
  rcases ho with ⟨_, rfl, rfl, rfl, rfl, o1, o2, o3⟩ | ⟨h0, _⟩ | ⟨h0, _⟩
  · exact ⟨rfl, p1, S1, hv, hf, hs1, hl, o1, o2, o3⟩
  · cases h0
  · cases h0

theorem places_none (n : Nat) : places n (fun _ => none) = [] := by simp [places]

end Go.Proofs.YtkgjmejgkffbdaaGreatDoor
