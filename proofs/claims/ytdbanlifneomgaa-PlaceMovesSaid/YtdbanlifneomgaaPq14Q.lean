import Derived.Test.YtdbanlifneomgaaPn14Q
import Derived.Test.YtdbanlifneomgaaNums
/- PlaceMoves of layer 14: the mathematics. -/
set_option linter.unusedVariables false
namespace Go.Proofs.Ytdbanlifneomgaa
open Go.RowKit

def spP (i : Nat) : Pla := ⟨(i : Int) + 1, 0, (i : Int)⟩
def mvP (c s i : Nat) : Pla := if i + 1 = c then ⟨(i : Int) + 1, 1, (s : Int)⟩ else spP i
/-- The chunks' row: as they are put; one moved. -/
def rowP (k : Nat) : Pairs := (List.range k).map fun i => (keyP (spP i), valP (spP i))
def mvR (k c s : Nat) : Pairs := (List.range k).map fun i => (keyP (mvP c s i), valP (mvP c s i))
def lsP (k : Nat) : List Pla := (List.range k).map spP
def mvL (k c s : Nat) : List Pla := (List.range k).map (mvP c s)

theorem spP_good {i : Nat} (h : i < 31) : GoodP (spP i) := ⟨by show (1 : Int) ≤ (i : Int) + 1; omega, by show (i : Int) + 1 ≤ 1023; omega, .inl rfl, by show (0 : Int) ≤ (i : Int); omega, by show (i : Int) ≤ 255; omega⟩
theorem mvP_good {c s i : Nat} (h : i < 31) (hs : s ≤ 255) : GoodP (mvP c s i) := by
  unfold mvP
  split
  · exact ⟨by show (1 : Int) ≤ (i : Int) + 1; omega, by show (i : Int) + 1 ≤ 1023; omega, .inr rfl, by show (0 : Int) ≤ (s : Int); omega, by show (s : Int) ≤ 255; omega⟩
  · exact spP_good h
theorem key_sp (i : Nat) : keyP (spP i) = 8589934593 + i := by
  unfold keyP spP
  simp only
  omega
theorem key_mv (c s i : Nat) : keyP (mvP c s i) = 8589934593 + i := by
  unfold mvP
  split
  · unfold keyP
    simp only
    omega
  · exact key_sp i
theorem chg_snoc14 {qs : Pairs} {k : Nat} (v : Nat) (h : ∀ p ∈ qs, p.1 < k) : chg [(k, v)] k qs = qs ++ [(k, v)] := by
  have h1 : (qs.filter fun p => decide (p.1 < k)) = qs := by
    rw [List.filter_eq_self]
    intro p hp
    simpa using h p hp
  have h2 : (qs.filter fun p => decide (k < p.1)) = [] := by
    rw [List.filter_eq_nil_iff]
    intro p hp
    have := h p hp
    simp
    omega
  unfold chg
  rw [h1, h2, List.append_nil]
theorem row_next (j : Nat) : chg [(keyP (spP j), valP (spP j))] (keyP (spP j)) (rowP j) = rowP (j + 1) := by
  rw [chg_snoc14 _ fun p hp => ?_]
  · unfold rowP
    rw [List.range_succ, List.map_append]
    rfl
  · obtain ⟨i, hi, rfl⟩ := List.mem_map.1 hp
    have := List.mem_range.1 hi
    simp only [key_sp]
    omega
theorem range_part (k c : Nat) (h1 : 1 ≤ c) (h2 : c ≤ k) : List.range k = List.range (c - 1) ++ [c - 1] ++ List.range' c (k - c) := by
  have e1 : List.range' 0 (c - 1) ++ List.range' (c - 1) (k - (c - 1)) = List.range' 0 k := by
    have := List.range'_append_1 (s := 0) (m := c - 1) (n := k - (c - 1))
    rw [Nat.zero_add, show c - 1 + (k - (c - 1)) = k by omega] at this
    exact this
  have e2 : List.range' (c - 1) (k - (c - 1)) = (c - 1) :: List.range' c (k - c) := by
    rw [show k - (c - 1) = (k - c) + 1 by omega, List.range'_succ, show c - 1 + 1 = c by omega]
  rw [List.range_eq_range', List.range_eq_range', ← e1, e2, List.append_assoc]
  rfl
theorem row_move {k c s : Nat} (h1 : 1 ≤ c) (h2 : c ≤ k) : chg [(keyP (mvP c s (c - 1)), valP (mvP c s (c - 1)))] (keyP (mvP c s (c - 1))) (rowP k) = mvR k c s := by
  unfold rowP mvR
  rw [range_part k c h1 h2, List.map_append, List.map_append, List.map_append, List.map_append]
  rw [chg_mid]
  · congr 1
    · congr 1
      · refine List.map_congr_left fun i hi => ?_
        have := List.mem_range.1 hi
        rw [show mvP c s i = spP i by unfold mvP; rw [if_neg (by omega)]]
      · simp only [List.map_cons, List.map_nil]
        unfold chg
        rw [key_mv, key_sp]
        simp
    · refine List.map_congr_left fun i hi => ?_
      have := (List.mem_range'_1.1 hi).1
      rw [show mvP c s i = spP i by unfold mvP; rw [if_neg (by omega)]]
  · intro p hp
    obtain ⟨i, hi, rfl⟩ := List.mem_map.1 hp
    have := List.mem_range.1 hi
    simp only [key_sp, key_mv]
    omega
  · intro p hp
    obtain ⟨i, hi, rfl⟩ := List.mem_map.1 hp
    have := (List.mem_range'_1.1 hi).1
    simp only [key_sp, key_mv]
    omega
theorem plsOf_map (f : Nat → Pla) (k : Nat) (h : ∀ i, i < k → GoodP (f i)) : plsOf ((List.range k).map fun i => (keyP (f i), valP (f i))) = some ((List.range k).map f) := by
  induction k with
  | zero => rfl
  | succ k ih =>
    rw [List.range_succ, List.map_append, List.map_cons, List.map_nil, plsOf_snoc, ih fun i hi => h i (by omega), readPl_pair (h k (by omega)), List.map_append]
    rfl
theorem pr_map (f : Nat → Pla) (k : Nat) (h : ∀ i, i < k → GoodP (f i)) : pr ((List.range k).map fun i => (keyP (f i), valP (f i))) = (List.range k).map fun i => (keyP (f i), valP (f i)) := by
  unfold pr
  refine rng_all fun p hp => ?_
  obtain ⟨i, hi, rfl⟩ := List.mem_map.1 hp
  have := goodP_keys (h i (List.mem_range.1 hi))
  simp only
  omega
theorem getD_map (f : Nat → Pla) {k i : Nat} (h : i < k) : ((List.range k).map f).getD i pla0 = f i := by
  rw [List.getD_eq_getElem?_getD, List.getElem?_map, List.getElem?_range h]
  rfl
theorem okL_map (f : Nat → Pla) (k : Nat) (s0 s1 : Int) (h : ∀ i, i < k → GoodP (f i)) (h1 : ∀ i, i < k → (f i).slot < slotsOf s0 s1 (f i).tier) (h2 : ∀ i, (f i).ch = (i : Int) + 1)
    (h3 : ∀ i j, i < j → j < k → ¬ ((f i).tier = (f j).tier ∧ (f i).slot = (f j).slot)) : okL ((List.range k).map f) s0 s1 = true := by
  rw [okL_iff]
  intro i hi
  rw [List.length_map, List.length_range] at hi
  unfold OkAt
  rw [getD_map f hi]
  refine ⟨h i hi, h1 i hi, fun hp => ?_, fun j hj => ?_⟩
  · rw [getD_map f (by omega), h2, h2]
    omega
  · rw [getD_map f (by omega)]
    exact h3 j i hj hi
theorem ok_sp {k : Nat} (hk : k ≤ 30) : okL (lsP k) (k : Int) 1 = true := by
  refine okL_map spP k _ _ (fun i hi => spP_good (by omega)) (fun i hi => ?_) (fun i => rfl) (fun i j h1 h2 h => ?_)
  · show ((i : Nat) : Int) < slotsOf _ _ 0
    unfold slotsOf
    rw [if_pos rfl]
    omega
  · have h3 : ((i : Nat) : Int) = (j : Int) := h.2
    omega
theorem ok_mv {k c s : Nat} (hk : k ≤ 30) (hs : s ≤ 255) : okL (mvL k c s) (k : Int) 256 = true := by
  refine okL_map (mvP c s) k _ _ (fun i hi => mvP_good (by omega) hs) (fun i hi => ?_) (fun i => ?_) (fun i j h1 h2 h => ?_)
  · unfold mvP slotsOf
    by_cases e : i + 1 = c
    · rw [if_pos e]
      simp only
      rw [if_neg (by decide)]
      omega
    · rw [if_neg e]
      show ((i : Nat) : Int) < _
      simp only [spP]
      rw [if_pos trivial]
      omega
  · unfold mvP
    split <;> rfl
  · unfold mvP at h
    by_cases e : i + 1 = c
    · have e2 : ¬ j + 1 = c := by omega
      rw [if_pos e, if_neg e2] at h
      have h3 : (1 : Int) = 0 := h.1
      omega
    · by_cases e2 : j + 1 = c
      · rw [if_neg e, if_pos e2] at h
        have h3 : (0 : Int) = 1 := h.1
        omega
      · rw [if_neg e, if_neg e2] at h
        have h3 : ((i : Nat) : Int) = (j : Int) := h.2
        omega
/-- One more, at the spot of the one that moved. -/
def twoP (k s : Nat) : Pla := ⟨(k : Int) + 1, 1, (s : Int)⟩
theorem twoP_good {k s : Nat} (hk : k ≤ 30) (hs : s ≤ 255) : GoodP (twoP k s) := ⟨by show (1 : Int) ≤ (k : Int) + 1; omega, by show (k : Int) + 1 ≤ 1023; omega, .inr rfl, by show (0 : Int) ≤ (s : Int); omega, by show (s : Int) ≤ 255; omega⟩
theorem key_two (k s : Nat) : keyP (twoP k s) = 8589934593 + k := by
  unfold keyP twoP
  simp only
  omega
theorem row_two {k c s : Nat} : chg [(keyP (twoP k s), valP (twoP k s))] (keyP (twoP k s)) (mvR k c s) = mvR k c s ++ [(keyP (twoP k s), valP (twoP k s))] := by
  refine chg_snoc14 _ fun p hp => ?_
  obtain ⟨i, hi, rfl⟩ := List.mem_map.1 hp
  have := List.mem_range.1 hi
  simp only [key_two, key_mv]
  omega
theorem ls_two {k c s : Nat} (hk : k ≤ 30) (hs : s ≤ 255) : plsOf (pr (mvR k c s ++ [(keyP (twoP k s), valP (twoP k s))])) = some (mvL k c s ++ [twoP k s]) := by
  have h1 : pr (mvR k c s ++ [(keyP (twoP k s), valP (twoP k s))]) = mvR k c s ++ [(keyP (twoP k s), valP (twoP k s))] := by
    unfold pr
    refine rng_all fun p hp => ?_
    rcases List.mem_append.1 hp with hp | hp
    · obtain ⟨i, hi, rfl⟩ := List.mem_map.1 hp
      have := goodP_keys (mvP_good (c := c) (i := i) (by have := List.mem_range.1 hi; omega) hs)
      simp only
      omega
    · rw [List.mem_singleton.1 hp]
      have := goodP_keys (twoP_good hk hs)
      simp only
      omega
  rw [h1, plsOf_snoc, show plsOf (mvR k c s) = some (mvL k c s) from plsOf_map (mvP c s) k fun i hi => mvP_good (by omega) hs, readPl_pair (twoP_good hk hs)]
  rfl
theorem no_two {k c s : Nat} (h1 : 1 ≤ c) (h2 : c ≤ k) : okL (mvL k c s ++ [twoP k s]) 256 256 = false := by
  have hl : (mvL k c s).length = k := by unfold mvL; simp
  refine okL_no (i := k) (by rw [List.length_append, hl]; simp) fun h => ?_
  refine h.2.2.2 (c - 1) (by omega) ?_
  have e1 : (mvL k c s ++ [twoP k s]).getD k pla0 = twoP k s := by
    rw [List.getD_eq_getElem?_getD, List.getElem?_append_right (by rw [hl]; exact Nat.le_refl _), hl, Nat.sub_self]
    rfl
  have e2 : (mvL k c s ++ [twoP k s]).getD (c - 1) pla0 = ⟨((c - 1 : Nat) : Int) + 1, 1, (s : Int)⟩ := by
    rw [List.getD_eq_getElem?_getD, List.getElem?_append_left (by rw [hl]; omega), ← List.getD_eq_getElem?_getD]
    unfold mvL
    rw [getD_map _ (by omega)]
    unfold mvP
    rw [if_pos (by omega)]
  rw [e1, e2]
  exact ⟨rfl, rfl⟩

/-- A tree on a Shelf with room enough. -/
def Pm (w3 : World) (s root : Nat) (qs : Pairs) (c : Nat) (W : World) : Prop := ∃ N, TrN w3 s 511 root qs (8 + c) N W ∧ N.length ≤ 5 * c
theorem Pm.old {w3 W W' : World} {s root c : Nat} {qs : Pairs} (h : Pm w3 s root qs c W) (hk : KeptIn (· < W.heap.size) W W') : Pm w3 s root qs c W' := by
  obtain ⟨N, h1, h2⟩ := h
  exact ⟨N, h1.old hk, h2⟩
theorem Pm.kw {w3 W : World} {s root c : Nat} {qs : Pairs} (h : Pm w3 s root qs c W) : KeptIn (· < w3.heap.size) w3 W := by
  obtain ⟨N, h1, h2⟩ := h
  exact h1.kw14
theorem Pm.slt {w3 W : World} {s root c : Nat} {qs : Pairs} (h : Pm w3 s root qs c W) : s < W.heap.size := by
  obtain ⟨N, h1, h2⟩ := h
  exact h1.slt14
theorem pmPut {w3 W : World} {s root c : Nat} {qs : Pairs} {x : Pla} (hg : GoodP x) (h : Pm w3 s root qs c W) (hc : c ≤ 60) :
    Calls Try.prog 19 #[pgV s, .int .i64 (root : Int), plaV x] W fun e w' => ∃ r : Nat, e = .returned (.tuple #[.int .i64 (r : Int), .int .i64 0]) ∧ Pm w3 s r (chg [(keyP x, valP x)] (keyP x) qs) (c + 1) w' ∧ Fr8 s W w' := by
  obtain ⟨N, h1, h2⟩ := h
  refine (plPut hg h1 (by omega) (by omega)).mono ?_
  rintro e w' ⟨r, er, M, rfl, hM, hfr, hor⟩
  rcases hor with ⟨rfl, rfl, ht, hr⟩ | ⟨rfl, ht⟩
  · rw [List.length_append] at hr
    omega
  · exact ⟨r, rfl, ⟨N ++ M, ht, by rw [List.length_append]; omega⟩, hfr⟩
theorem pmList {w3 W : World} {s root c : Nat} {qs : Pairs} {l : List Pla} (h : Pm w3 s root qs c W) (hq : qs.length ≤ 1000) (hl : plsOf (pr qs) = some l) :
    Calls Try.prog 24 #[pgV s, .int .i64 (root : Int)] W fun e w' => ∃ v, e = .returned (.tuple #[v, .int .i64 0]) ∧ w'.ownsRow W.heap.size 47 3 v l.length (cellsL l) ∧ KeptIn (· < W.heap.size) W w' := by
  obtain ⟨N, h1, h2⟩ := h
  have := plList h1.m hq
  rw [hl] at this
  exact this

end Go.Proofs.Ytdbanlifneomgaa
