import Derived.Test.YtdbohcdjamhdjaaPl8W
import Derived.Test.YtdbohcdjamhdjaaBk8W
import Derived.Test.YtdbohcdjamhdjaaWn8W
/- Package tree's climb: what it leaves, as a fold from the leaf on. -/
set_option linter.unusedVariables false
namespace Go.Proofs.Ytdbohcdjamhdjaa
open Go.RowKit Go.Shelf

/-- From a node's body on up these steps. -/
def upM (c : Nat) : List Stp → Nat → Pairs → List Nd → Option (Nat × Pairs) × List Nd
  | [], lv, l, N => (some (lv, l), N)
  | s :: r, lv, l, N => match partM c lv l N with
    | (none, N1) => (none, N1)
    | (some ls, N1) => upM c r s.lv (withM s ls) N1
theorem upM_snoc (c : Nat) (s : Stp) : ∀ (a : List Stp) (lv : Nat) (l : Pairs) (N : List Nd), upM c (a ++ [s]) lv l N = match upM c a lv l N with
    | (none, N1) => (none, N1)
    | (some q, N1) => match partM c q.1 q.2 N1 with
      | (none, N2) => (none, N2)
      | (some ls, N2) => (some (s.lv, withM s ls), N2) := by
  intro a
  induction a with
  | nil =>
    intro lv l N
    simp only [List.nil_append, upM]
  | cons t r ih =>
    intro lv l N
    show upM c (t :: (r ++ [s])) lv l N = _
    unfold upM
    cases partM c lv l N with
    | mk o N1 =>
      cases o with
      | none => rfl
      | some ls => exact ih _ _ _
theorem upM_none (c : Nat) (b : List Stp) : ∀ (a : List Stp) (lv : Nat) (l : Pairs) (N N1 : List Nd), upM c a lv l N = (none, N1) → upM c (a ++ b) lv l N = (none, N1) := by
  intro a
  induction a with
  | nil => intro lv l N N1 h; cases h
  | cons t r ih =>
    intro lv l N N1 h
    show upM c (t :: (r ++ b)) lv l N = _
    unfold upM at h ⊢
    cases hp : partM c lv l N with
    | mk o N2 =>
      rw [hp] at h
      cases o with
      | none => exact h
      | some ls => exact ih _ _ _ _ h

/-- What climbs is that fold. -/
theorem climb_up (c : Nat) (xs : Pairs) (N : List Nd) (z : Stp) : ∀ (init : List Stp), climbM c (init ++ [z]) xs N = ((upM c init.reverse z.lv (withM z xs) N).1.map (·.2), (upM c init.reverse z.lv (withM z xs) N).2) ∧ ∀ q, (upM c init.reverse z.lv (withM z xs) N).1 = some q → q.1 = lvOf (init ++ [z]) := by
  intro init
  induction init with
  | nil => exact ⟨rfl, fun q h => by cases h; rfl⟩
  | cons s r ih =>
    rw [List.reverse_cons, upM_snoc]
    obtain ⟨t, r', hr⟩ : ∃ t r', r ++ [z] = t :: r' := by
      cases r with
      | nil => exact ⟨z, [], rfl⟩
      | cons t r' => exact ⟨t, r' ++ [z], rfl⟩
    have hcl : climbM c (s :: r ++ [z]) xs N = match climbM c (r ++ [z]) xs N with
        | (none, N1) => (none, N1)
        | (some l, N1) => match partM c t.lv l N1 with
          | (none, N2) => (none, N2)
          | (some ls, N2) => (some (withM s ls), N2) := by
      show climbM c (s :: (r ++ [z])) xs N = _
      rw [hr]; rfl
    have hlv : lvOf (r ++ [z]) = t.lv := by rw [hr]; rfl
    rw [hcl, ih.1]
    have ih2 := ih.2
    cases hu : upM c r.reverse z.lv (withM z xs) N with
    | mk o N1 =>
      rw [hu] at ih2
      cases o with
      | none => exact ⟨rfl, fun q h => by cases h⟩
      | some q =>
        have hq := ih2 q rfl
        rw [hlv] at hq
        dsimp only [Option.map_some]
        rw [hq]
        cases hp : partM c t.lv q.2 N1 with
        | mk o2 N2 =>
          cases o2 with
          | none => exact ⟨rfl, fun q h => by cases h⟩
          | some ls => exact ⟨rfl, fun q h => by cases h; rfl⟩

/-- A step that is as it should be. -/
def StOk (s : Stp) : Prop := s.fr ≤ s.to ∧ s.to ≤ s.ps.length ∧ s.ps.length ≤ 15
theorem withM_length {s : Stp} (h : StOk s) (ls : Pairs) : (withM s ls).length ≤ 15 + ls.length := by
  unfold withM
  simp only [List.length_append, List.length_take, List.length_drop]
  have := h.1; have := h.2.1; have := h.2.2
  omega
theorem part_len {c lv : Nat} {l : Pairs} {N : List Nd} {ls : Pairs} {N1 : List Nd} (h : partM c lv l N = (some ls, N1)) (hl : l.length ≤ 100) (hNc : N.length ≤ c) (hc : c ≤ 511) (hf : Fits l) : ls.length ≤ 14 ∧ Fits ls ∧ N1.length ≤ c := by
  unfold partM at h
  obtain ⟨m, hm⟩ : ∃ m, (if 15 < l.length then 8 else 15) = m := ⟨_, rfl⟩
  have hm8 : m = 8 ∨ m = 15 := by rw [← hm]; split <;> omega
  rw [hm] at h
  obtain ⟨h1, h2, h3⟩ := nodesM_some h
  have hp : partsOf m l.length ≤ 14 := by unfold partsOf; rcases hm8 with rfl | rfl <;> omega
  refine ⟨by rw [h1, leadsOf_length]; exact hp, ?_, by rw [h2, List.length_append, nodesOf_length]; exact h3⟩
  rw [h1]
  exact leadsOf_fits hf (by omega) fun j hj => (parts_lt (by rcases hm8 with rfl | rfl <;> omega)).1 hj
theorem part_none_len {c lv : Nat} {l : Pairs} {N : List Nd} {N1 : List Nd} (h : partM c lv l N = (none, N1)) (hNc : N.length ≤ c) : N1.length ≤ c := by
  unfold partM at h
  obtain ⟨h1, h2⟩ := nodesM_none h
  rw [h2, List.length_append, nodesOf_length]; omega
theorem withM_fits {s : Stp} {ls : Pairs} (h1 : Fits s.ps) (h2 : Fits ls) : Fits (withM s ls) := by
  intro p hp
  unfold withM at hp
  rcases List.mem_append.1 hp with hp | hp
  · rcases List.mem_append.1 hp with hp | hp
    · exact h1 p (List.mem_of_mem_take hp)
    · exact h2 p hp
  · exact h1 p (List.mem_of_mem_drop hp)

/-- Where a way's steps lie. -/
theorem way_at {W : World} {B0 : Nat} : ∀ {ws : List Stp} {xs : List Value}, WayC W B0 xs ws → ∃ (A : Nat → Option Addr) (C : Nat → Nat), ∀ i (h : i < ws.length),
    xs[i * 4]? = some (.int .i64 (ws[i].lv : Int)) ∧ xs[i * 4 + 1]? = some (.slice (A i) ws[i].ps.length (C i)) ∧ xs[i * 4 + 2]? = some (.int .i64 (ws[i].fr : Int)) ∧ xs[i * 4 + 3]? = some (.int .i64 (ws[i].to : Int)) ∧
      IsPs W (A i) ws[i].ps ∧ (∀ p, A i = some p → B0 ≤ p.block ∧ TyP W p.block) ∧ CapOk (A i) ws[i].ps.length (C i) := by
  intro ws
  induction ws with
  | nil => intro xs _; exact ⟨fun _ => none, fun _ => 0, fun i h => by cases h⟩
  | cons s r ih =>
    intro xs h
    obtain ⟨a, cap, xs', rfl, k1, k2, k3, k4⟩ := h
    obtain ⟨A, C, hAC⟩ := ih k4
    refine ⟨fun i => if i = 0 then a else A (i - 1), fun i => if i = 0 then cap else C (i - 1), fun i hi => ?_⟩
    cases i with
    | zero => exact ⟨rfl, rfl, rfl, rfl, k1, k2, k3⟩
    | succ i =>
      have := hAC i (by simpa using hi)
      rw [show (i + 1) * 4 = i * 4 + 4 by omega]
      simpa using this

theorem row_stB {W : World} {B0 cap g : Nat} {ws : List Stp} {xs : List Value} {A : Nat → Option Addr} {C : Nat → Nat} (h : W.ownsRow B0 109 4 (.slice (some ⟨g, 0, none⟩) ws.length cap) ws.length xs)
    (hA : ∀ i (h : i < ws.length), xs[i * 4]? = some (.int .i64 (ws[i].lv : Int)) ∧ xs[i * 4 + 1]? = some (.slice (A i) ws[i].ps.length (C i)) ∧ xs[i * 4 + 2]? = some (.int .i64 (ws[i].fr : Int)) ∧ xs[i * 4 + 3]? = some (.int .i64 (ws[i].to : Int))) :
    StB W g ws A C ∧ ws.length ≤ cap ∧ cap ≤ maxLen := by
  rcases h.2 with ⟨e, _⟩ | ⟨g1, cap1, cur, e, _, hc, h1, h2, h3, h4⟩
  · cases e
  simp only [Value.slice.injEq, Option.some.injEq, Addr.mk.injEq, and_true, true_and] at e
  obtain ⟨rfl, rfl⟩ := e
  refine ⟨⟨(Array.getElem?_eq_some_iff.1 hc).1, fun i hi => ?_⟩, h1, h2⟩
  have hcell : ∀ j u, xs[j]? = some u → W.cell? ⟨g, j, none⟩ = some u := fun j u hu => by
    rw [cell_of_row _ _ _ _ _ _ hc]
    rw [← h4, List.getElem?_take] at hu
    split at hu
    · simpa using hu
    · cases hu
  obtain ⟨e1, e2, e3, e4⟩ := hA i hi
  exact ⟨hcell _ _ e1, hcell _ _ e2, hcell _ _ e3, hcell _ _ e4⟩

/-- What climb hands back. -/
def BodyS (w : World) (s room : Nat) (D : Nat → Prop) (lv : Nat) (r : Option Pairs × List Nd) (e : Ending) (w' : World) : Prop :=
  (match r.1 with
    | some l => ∃ a cap, e = .returned (.tuple #[leafV (lv : Int) a l.length cap, .int .i64 0]) ∧ w'.ownsRow w.heap.size 82 2 (.slice a l.length cap) l.length (cellsP l) ∧ Fits l
    | none => e = .returned (.tuple #[leafV 0 none 0 0, .int .i64 6])) ∧ AddTo w s room D r.2 w'

/-- The steps of places. -/
def stepsP (ws : List Stp) (n : Nat) (hn : n ≤ ws.length) (pre : List (StpN n)) : List Stp := pre.map fun x => ws[x.1]'(Nat.lt_of_lt_of_le x.2 hn)
theorem stepsP_snoc {ws : List Stp} {n : Nat} {hn : n ≤ ws.length} (pre : List (StpN n)) (x : StpN n) : stepsP ws n hn (pre ++ [x]) = stepsP ws n hn pre ++ [ws[x.1]'(Nat.lt_of_lt_of_le x.2 hn)] := by simp [stepsP]
theorem stepsP_back {ws : List Stp} {n : Nat} (hn : n ≤ ws.length) : ∀ k, k ≤ n → stepsP ws n hn (backJ n k) = (ws.take n).reverse.take k := by
  intro k
  induction k with
  | zero => intro _; simp [stepsP, backJ]
  | succ k ih =>
    intro h
    have hi : n - 1 - k < n := by omega
    rw [backJ_succ hi, stepsP_snoc, ih (by omega), List.take_add_one]
    congr 1
    have hl : k < (ws.take n).reverse.length := by simp; omega
    rw [List.getElem?_eq_getElem hl, List.getElem_reverse, List.getElem_take]
    simp only [List.length_take, Option.toList_some]
    congr 2
    omega

/-- Between two rounds of climb: L is the node's box, Bw where the call's own memory begins. -/
structure ClI (W0 : World) (s room L Bw : Nat) (D X : Nat → Prop) (lv : Nat) (l : Pairs) (N1 : List Nd) (W : World) : Prop where
  ex : ∃ D' a cap, IsSh W s room N1 D' ∧ (∀ k, D' k → IsC W k) ∧ (∀ k, D' k → D k ∨ W0.heap.size ≤ k) ∧ W.heap[L]? = some (.cells #[.int .i64 (lv : Int), .slice a l.length cap] 27 (0, 0)) ∧ W.ownsRow Bw 82 2 (.slice a l.length cap) l.length (cellsP l)
  kept : KeptIn X W0 W

theorem row_isC {W : World} {B n : Nat} {v : Value} {xs : List Value} (h : W.ownsRow B 82 2 v n xs) : ∀ g, v.ownBlock = some g → IsC W g := fun g e => by
  rcases h.2 with ⟨e1, _⟩ | ⟨g1, cap1, cur, e1, _, hc, _⟩
  · rw [e1] at e; cases e
  · rw [e1] at e
    simp only [Value.ownBlock, Option.some.injEq] at e
    subst e
    exact ⟨_, _, _, hc⟩

theorem ClI.own {W0 W W' : World} {s room L Bw lv : Nat} {D X : Nat → Prop} {N1 : List Nd} {l : Pairs} {row : Option Nat} (h : ClI W0 s room L Bw D X lv l N1 W) (hX : ∀ k, X k → k < W0.heap.size) (hg : W.grownBy W' row) (hr : ∀ r, row = some r → W0.heap.size ≤ r ∧ ∃ o : Obj, W.heap[r]? = some o ∧ o.isCells = false) : ClI W0 s room L Bw D X lv l N1 W' := by
  obtain ⟨⟨D', a, cap, h1, h2, h3, h4, h5⟩, hk⟩ := h
  have hb := fun k (hk : IsC W k) => own_block (r := 0) hg hr hk
  refine ⟨⟨D', a, cap, h1.kept ⟨hg.os, hg.tape, hg.output, hg.size, fun k hd => hb k (h2 k hd)⟩, fun k hd => (h2 k hd).eq (hb k (h2 k hd)), h3, (hb L ⟨_, _, _, h4⟩).trans h4, rowS_block h5 fun g e => hb g (row_isC h5 g e)⟩, hk.trans ⟨hg.os, hg.tape, hg.output, hg.size, fun k hx => hg.block k (Nat.lt_of_lt_of_le (hX k hx) hk.size) fun e => ?_⟩⟩
  have := (hr k e.symm).1
  have := hX k hx
  omega

/-- A round more. -/
theorem ClI.next {W0 W V2 V3 : World} {s room L Bw lv' a9c : Nat} {D X D1 : Nat → Prop} {N2 : List Nd} {l' : Pairs} {a9 : Option Addr} {v0 v1 : Value}
    (hX : ∀ k, X k ↔ k < W0.heap.size ∧ k ≠ s ∧ k ≠ L) (hD : ∀ k, D k → k ≠ L) (hL : L < W0.heap.size) (hs : s < W0.heap.size) (hLs : L ≠ s) (hk : KeptIn X W0 W) (hBw : Bw ≤ W0.heap.size) (i3 : ∀ k, D1 k → D k ∨ W0.heap.size ≤ k)
    (i4 : W.heap[L]? = some (.cells #[v0, v1] 27 (0, 0))) (hA : AddTo W s room D1 N2 V2) (hk3 : KeptIn (· < V2.heap.size) V2 V3) (hrow : V3.ownsRow V2.heap.size 82 2 (.slice a9 l'.length a9c) l'.length (cellsP l')) :
    ClI W0 s room L Bw D X lv' l' N2 ((V3.setCell ⟨L, 0, none⟩ (.int .i64 (lv' : Int))).setCell ⟨L, 1, none⟩ (.slice a9 l'.length a9c)) ∧ KeptIn X W ((V3.setCell ⟨L, 0, none⟩ (.int .i64 (lv' : Int))).setCell ⟨L, 1, none⟩ (.slice a9 l'.length a9c)) ∧ KeepsFrom W0.heap.size W ((V3.setCell ⟨L, 0, none⟩ (.int .i64 (lv' : Int))).setCell ⟨L, 1, none⟩ (.slice a9 l'.length a9c)) := by
  obtain ⟨D2, hsh, hD2, hk2⟩ := hA
  have hsz := hk.size
  have hs2 := hk2.size
  have hs3 := hk3.size
  have hfar : ∀ k, k < V2.heap.size → k ≠ L → ((V3.setCell ⟨L, 0, none⟩ (.int .i64 (lv' : Int))).setCell ⟨L, 1, none⟩ (.slice a9 l'.length a9c)).heap[k]? = V2.heap[k]? := fun k h1 h2 =>
    (heap_setCell_other _ _ _ _ (by simpa using h2)).trans ((heap_setCell_other _ _ _ _ (by simpa using h2)).trans (hk3.block k h1))
  have hLD2 : ¬ D2 L := fun hd => by
    rcases hD2 L hd with h | h
    · rcases i3 L h with h | h
      · exact hD L h rfl
      · omega
    · omega
  have hL3 : V3.heap[L]? = some (.cells #[v0, v1] 27 (0, 0)) := (hk3.block L (by omega)).trans ((hk2.block L ⟨by omega, hLs⟩).trans i4)
  have hkX : KeptIn X W ((V3.setCell ⟨L, 0, none⟩ (.int .i64 (lv' : Int))).setCell ⟨L, 1, none⟩ (.slice a9 l'.length a9c)) := by
    refine ⟨hk3.os.trans hk2.os, hk3.tape.trans hk2.tape, hk3.output.trans hk2.output, by simp; omega, fun k hx => ?_⟩
    obtain ⟨h1, h2, h3⟩ := (hX k).1 hx
    exact (hfar k (by omega) h3).trans (hk2.block k ⟨by omega, h2⟩)
  refine ⟨⟨⟨fun k => D2 k ∧ IsC V2 k, a9, a9c, ?_, fun k hd => ?_, fun k hd => ?_, ?_, ?_⟩, hk.trans hkX⟩, hkX, ⟨by simp; omega, fun k o hB ho hc => ?_⟩⟩
  · exact hsh.cells.kept ⟨hk3.os, hk3.tape, hk3.output, by simp; omega, fun k hd => hfar k (hsh.lt k hd.1) (fun e => hLD2 (e ▸ hd.1))⟩
  · exact hd.2.eq (hfar k (hsh.lt k hd.1) (fun e => hLD2 (e ▸ hd.1)))
  · rcases hD2 k hd.1 with h | h
    · exact i3 k h
    · exact .inr (by omega)
  · have h1 : (V3.setCell ⟨L, 0, none⟩ (.int .i64 (lv' : Int))).heap[L]? = _ := heap_setCell_same _ _ _ _ _ _ hL3
    rw [heap_setCell_same _ _ _ _ _ _ h1]; rfl
  · refine row_weaken (rowS_block hrow fun g e => ?_) (Nat.le_trans hBw (by omega))
    have := (rowS_lt hrow g e).1
    exact (heap_setCell_other _ _ _ _ (by simp; omega)).trans (heap_setCell_other _ _ _ _ (by simp; omega))
  · have hkl : k < W.heap.size := (Array.getElem?_eq_some_iff.1 ho).1
    exact (hfar k (by omega) (by omega)).trans ((hk2.block k ⟨hkl, by omega⟩).trans ho)

/-- A round left: there was no room. -/
def ClX (W0 : World) (s room R E c : Nat) (D X : Nat → Prop) (ws : List Stp) (k : Nat) (hkn : k ≤ ws.length) (lv0 : Nat) (l0 : Pairs) (N : List Nd) (cd : Code) (pre : List (StpN k)) (W : World) : Prop :=
  cd = .ret ∧ ∃ N1 D', upM c (stepsP ws k hkn pre) lv0 l0 N = (none, N1) ∧ IsSh W s room N1 D' ∧ (∀ k, D' k → IsC W k) ∧ (∀ k, D' k → D k ∨ W0.heap.size ≤ k) ∧
    W.heap[R]? = some (.cells #[.int .i64 0, .slice none 0 0] 27 (0, 0)) ∧ W.heap[E]? = some (.cells #[.int .i64 6] 32 (0, 0)) ∧ KeptIn (fun k => X k ∧ k ≠ R ∧ k ≠ E) W0 W
theorem ClX.own {W0 : World} {s room R E c : Nat} {D X : Nat → Prop} {ws : List Stp} {k : Nat} {hkn : k ≤ ws.length} {lv0 : Nat} {l0 : Pairs} {N : List Nd} (cd : Code) (hX : ∀ k, X k → k < W0.heap.size) : OwnFrom W0.heap.size (ClX W0 s room R E c D X ws k hkn lv0 l0 N cd) := by
  rintro pre W W' row ⟨hc, N1, D', e, h1, h2, h3, h6, h7, hk⟩ hg hr
  have hb := fun k (hk : IsC W k) => own_block (r := 0) hg hr hk
  exact ⟨hc, N1, D', e, h1.kept ⟨hg.os, hg.tape, hg.output, hg.size, fun k hd => hb k (h2 k hd)⟩, fun k hd => (h2 k hd).eq (hb k (h2 k hd)), h3, (hb _ ⟨_, _, _, h6⟩).trans h6, (hb _ ⟨_, _, _, h7⟩).trans h7,
    hk.trans ⟨hg.os, hg.tape, hg.output, hg.size, fun k hx => hg.block k (Nat.lt_of_lt_of_le (hX k hx.1) hk.size) fun e => by
      have := (hr k e.symm).1
      have := hX k hx.1
      omega⟩⟩

theorem row_emp {W : World} {B n cap : Nat} {a : Option Addr} {xs : List Value} (h : W.ownsRow B 82 2 (.slice a n cap) n xs) : EmpOk a n cap := fun _ => by
  rcases h.2 with ⟨e, _⟩ | ⟨g, cap1, cur, e, _⟩
  · simp only [Value.slice.injEq] at e
    exact .inl ⟨e.1, e.2.2⟩
  · simp only [Value.slice.injEq] at e
    exact .inr ⟨g, 0, e.1⟩

/-- Behind the loop, whatever was stored to R and E. -/
theorem an_fin {w W0 W W8 Wf : World} {s room R E : Nat} {D D' X : Nat → Prop} {N' : List Nd} {Dd : Nat} {o : Obj} (hk0 : KeptIn (· < w.heap.size) w W0) (hs : s < w.heap.size) (hX : ∀ k, k < w.heap.size → k ≠ s → X k) (hD : ∀ k, D k → k < w.heap.size) (hR : w.heap.size ≤ R ∧ R < W0.heap.size) (hE : w.heap.size ≤ E ∧ E < W0.heap.size)
    (h1 : IsSh W s room N' D') (h2 : ∀ k, D' k → IsC W k) (h3 : ∀ k, D' k → D k ∨ W0.heap.size ≤ k) (hk : KeptIn X W0 W) (hK : W.heap[Dd]? = some (.deferred (some []))) (hDd : W0.heap.size ≤ Dd)
    (h8 : KeptIn (fun k => k ≠ R ∧ k ≠ E) W W8) (h8s : W8.heap.size = W.heap.size) (hW : W8.putObj Dd o = Wf) :
    AddTo w s room D N' Wf ∧ (∀ k, IsC W k → k ≠ R → k ≠ E → Wf.heap[k]? = W.heap[k]?) := by
  have hfar : ∀ k, k ≠ R → k ≠ E → k ≠ Dd → Wf.heap[k]? = W.heap[k]? := fun k e1 e2 e3 => by
    rw [← hW]
    exact (World.putObj_heap_other e3).trans (h8.block k ⟨e1, e2⟩)
  have hcd : ∀ k, IsC W k → k ≠ Dd := fun k hk e => by
    obtain ⟨cs, t, fr, h⟩ := hk
    rw [e, hK] at h
    cases h
  have hsz : Wf.heap.size = W.heap.size := by rw [← hW]; simp [h8s]
  have hnot : ∀ k, D' k → k ≠ R ∧ k ≠ E := fun k hd => by
    rcases h3 k hd with h | h
    · have := hD k h; omega
    · omega
  refine ⟨⟨D', h1.kept ⟨by rw [← hW]; exact h8.os, by rw [← hW]; exact h8.tape, by rw [← hW]; exact h8.output, by omega, fun k hd => hfar k (hnot k hd).1 (hnot k hd).2 (hcd k (h2 k hd))⟩, fun k hd => (h3 k hd).imp id fun h => Nat.le_trans hk0.size h, ?_⟩, fun k hc e1 e2 => hfar k e1 e2 (hcd k hc)⟩
  have h0 := hk0.size
  refine ((hk0.mono fun k h => h.1).trans (hk.mono fun k h => hX k h.1 h.2)).trans ⟨by rw [← hW]; exact h8.os, by rw [← hW]; exact h8.tape, by rw [← hW]; exact h8.output, by omega, fun k h => hfar k (by omega) (by omega) (by omega)⟩

/-- All steps but the last. -/
theorem steps_all {ws init : List Stp} {z : Stp} (hws : ws = init ++ [z]) (hkn : init.length ≤ ws.length) (q : Nat) (hq : q ≤ init.length) : stepsP ws init.length hkn (backJ init.length q) = init.reverse.take q := by
  rw [stepsP_back hkn q hq]
  have : ws.take init.length = init := by rw [hws]; simp
  rw [this]

end Go.Proofs.Ytdbohcdjamhdjaa
