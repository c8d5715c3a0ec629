/- Order: the fields of a line, word by word. -/
import Derived.Test.YtlldmebjgidbaaaDoorWi20
set_option linter.unusedVariables false
set_option linter.unusedSimpArgs false
namespace Go.Proofs.YtlldmebjgidbaaaDoor
open Go.RowKit

def mapO {α β : Type} (f : α → Option β) : List α → Option (List β)
  | [] => some []
  | x :: r => match f x, mapO f r with
    | some y, some ys => some (y :: ys)
    | _, _ => none

theorem mapO_snoc {α β : Type} (f : α → Option β) (x : α) : ∀ l : List α, mapO f (l ++ [x]) = match mapO f l, f x with
    | some ys, some y => some (ys ++ [y])
    | _, _ => none
  | [] => by
    simp only [List.nil_append, mapO]
    cases f x <;> rfl
  | a :: l => by
    simp only [List.cons_append, mapO, mapO_snoc f x l]
    cases f a <;> cases mapO f l <;> cases f x <;> rfl

theorem mapO_none {α β : Type} {f : α → Option β} {x : α} (h : f x = none) : ∀ l : List α, x ∈ l → mapO f l = none
  | [], hx => absurd hx (by simp)
  | a :: l, hx => by
    simp only [mapO]
    rcases List.mem_cons.1 hx with rfl | hx
    · rw [h]
    · rw [mapO_none h l hx]
      cases f a <;> rfl

theorem take_none {α β : Type} {f : α → Option β} {x : α} {l : List α} {j n : Nat} (hx : l[j]? = some x) (hj : j < n) : f x = none → mapO f (l.take n) = none := by
  intro h
  refine mapO_none h _ (List.mem_of_getElem? (i := j) ?_)
  rw [List.getElem?_take, if_pos hj]
  exact hx

theorem take_set {α : Type} {l vs : List α} {j : Nat} {y : α} (h : l.take j = vs) (hj : j < l.length) : (l.set j y).take (j + 1) = vs ++ [y] := by
  rw [List.take_add_one, List.getElem?_set_self hj, List.take_set_of_le (Nat.le_refl _), h]
  rfl

/-- A slice of texts that begins at place o of block g. -/
def RdS (g o : Nat) (ts : List (List UInt8)) (W : World) : Prop := ∀ (j : Nat) t, ts[j]? = some t → W.cell? ⟨g, o + j, none⟩ = some (.string ⟨t.toArray⟩)

theorem rdS_old {g o b : Nat} {ts : List (List UInt8)} {W V : World} (h : RdS g o ts W) (hV : KeptIn (fun k => k < W.heap.size ∧ k ≠ b) W V) (hgb : g ≠ b) : RdS g o ts V := by
  intro j t ht
  have h1 := h j t ht
  have hlt : g < W.heap.size := by
    rcases Nat.lt_or_ge g W.heap.size with h' | h'
    · exact h'
    · unfold World.cell? at h1
      rw [Array.getElem?_eq_none h'] at h1
      exact absurd h1 (by simp)
  unfold World.cell? at h1 ⊢
  rw [hV.block g ⟨hlt, hgb⟩]
  exact h1

theorem set_numC {b : Nat} {cu : List Int} {W : World} (h : W.heap[b]? = some (.cells (numC cu).toArray 3 (0, 0))) (j : Nat) (y : Int) : (W.setCell ⟨b, j, none⟩ (.int .i64 y)).heap[b]? = some (.cells (numC (cu.set j y)).toArray 3 (0, 0)) := by
  simp [World.setCell, Array.getElem?_modify, h, numC, List.map_set]
theorem set_txtC {b : Nat} {cu : List (List UInt8)} {W : World} (h : W.heap[b]? = some (.cells (txtC cu).toArray 9 (0, 0))) (j : Nat) (y : List UInt8) : (W.setCell ⟨b, j, none⟩ (.string ⟨y.toArray⟩)).heap[b]? = some (.cells (txtC (cu.set j y)).toArray 9 (0, 0)) := by
  simp [World.setCell, Array.getElem?_modify, h, txtC, List.map_set]

/-- What fill leaves. -/
def FilP {α : Type} (P : List α → World → Prop) (r : Option (List α)) (W : World) (b : Nat) (e : Ending) (w' : World) : Prop :=
  match r with
  | none => e = .returned (.bool false) ∧ KeptIn (fun k => k < W.heap.size ∧ k ≠ b) W w'
  | some vs => e = .returned (.bool true) ∧ P vs w' ∧ KeptIn (fun k => k < W.heap.size ∧ k ≠ b) W w'

def numW (t : List UInt8) : Option Int := numP (pl t)

theorem oNumber' (l : List UInt8) (hl : l.length ≤ 1099511627776) (w : World) : Calls Tryd.prog 17 #[.string ⟨l.toArray⟩] w fun e w' => e = .returned (.tuple #[.int .i64 (nvI (numW l)), .bool (numW l).isSome]) ∧ KeptIn (· < w.heap.size) w w' := oNumber l hl w

set_option maxRecDepth 1000000 in
set_option maxHeartbeats 4000000 in
theorem oFillI (b n : Nat) (cur : List Int) (g o m c : Nat) (ws : List (List UInt8)) (W : World) (hb : W.heap[b]? = some (.cells (numC cur).toArray 3 (0, 0))) (hn : cur.length = n) (hn3 : n ≤ 3) (hm : ws.length = m) (hnm : n ≤ m) (hm5 : m ≤ 5)
    (hR : RdS g o ws W) (hgb : g ≠ b) (hlen : ∀ t ∈ ws, t.length ≤ 1099511627776) :
    Calls Tryd.prog 29 #[.slice (some ⟨b, 0, none⟩) n n, .slice (some ⟨g, o, none⟩) m c, .func (.func 17) #[] #[]] W fun e w' => FilP (fun vs w' => w'.heap[b]? = some (.cells (numC vs).toArray 3 (0, 0))) (mapO numW (ws.take n)) W b e w' := by
  replace hb := Lib.hid hb
  replace hR := Lib.hid hR
  replace hlen := Lib.hid hlen
  go_enter Tryd.func29, Tryd.ntmps29
  go_wp2_with fail
  go_loopw [12] (fun i wr => ∃ (j : Nat) (V : World), V = wr ∧ i = .int .i64 (j : Int) ∧ Hid (j ≤ n ∧ KeptIn (fun k => k < W.heap.size ∧ k ≠ b) W V ∧ ∃ vs cu, mapO numW (ws.take j) = some vs ∧ vs.length = j ∧ cu.length = n ∧ cu.take j = vs ∧ V.heap[b]? = some (.cells (numC cu).toArray 3 (0, 0)))) (fun i _ => n - (RowKit.intOf i).toNat)
  case atStart => exact ⟨0, _, rfl, rfl, Nat.zero_le _, .refl _ _, [], cur, rfl, rfl, hn, rfl, hb.out⟩
  case round =>
    obtain ⟨j, V, rfl, rfl, H⟩ := hrel
    obtain ⟨hj, hV, vs, cu, k1, k2, k3, k4, k5⟩ := H.out
    clear H hb
    by_cases hp : j < n
    · obtain ⟨t, ht⟩ : ∃ t, ws[j]? = some t := ⟨_, List.getElem?_eq_getElem (by omega)⟩
      have hc := rdS_old hR.out hV hgb j t ht
      have C := Lib.hid (oNumber' t (hlen.out t (List.mem_of_getElem? ht)) V)
      have hmx : Hid (mapO numW (ws.take (j + 1)) = mapO numW (ws.take j ++ [t])) := Lib.hid (by rw [List.take_add_one, ht]; rfl)
      have d0 : decide ((0 : Int) ≤ (j : Int)) = true := decide_eq_true (by omega)
      have d1 : decide ((j : Int) < (n : Int)) = true := decide_eq_true (by omega)
      have d2 : (j : Int) < (n : Int) := by omega
      have d3 : (j : Int) < (m : Int) := by omega
      have d4 : decide ((j : Int) < (m : Int)) = true := decide_eq_true d3
      have d5 : (0 : Int) ≤ (j : Int) := by omega
      have hw1 := wrap_succ j (by omega)
      have K := Lib.hid (And.intro k1 (And.intro k2 (And.intro k3 k4)))
      replace k5 := Lib.hid k5
      replace hV := Lib.hid hV
      replace hp := Lib.hid hp
      have hnj := Lib.hid (take_none (n := n) (f := numW) ht hp.out)
      replace ht := Lib.hid ht
      replace hn := Lib.hid hn
      replace hm := Lib.hid hm
      replace hgb := Lib.hid hgb
      clear k1 k2 k3 k4 hj hn3 hnm hm5
      cases hv : numW t with
      | none =>
        rw [hv] at C
        replace hv := Lib.hid hv
        go_wp2_with fail
        refine C.out.mono ?_
        rintro e V2 ⟨rfl, hK2⟩
        replace hK2 := Lib.hid hK2
        clear hc
        go_wp2_with fail
        go_ret
        have hkk : KeptIn (fun k => k < W.heap.size ∧ k ≠ b) W V2 := hV.out.trans (hK2.out.mono fun k hk => Nat.lt_of_lt_of_le hk.1 hV.out.size)
        rw [hnj.out hv.out]
        exact ⟨rfl, hkk⟩
      | some y =>
        rw [hv] at C
        replace hv := Lib.hid hv
        go_wp2_with fail
        refine C.out.mono ?_
        rintro e V2 ⟨rfl, hK2⟩
        have k6 : V2.heap[b]? = some (.cells (numC cu).toArray 3 (0, 0)) := by
          rw [hK2.block b (Array.getElem?_eq_some_iff.1 k5.out).1]
          exact k5.out
        have hcl : cu.length = n := K.out.2.2.1
        have hkk : Hid (KeptIn (fun k => k < W.heap.size ∧ k ≠ b) W V2) := Lib.hid (hV.out.trans (hK2.mono fun k hk => Nat.lt_of_lt_of_le hk.1 hV.out.size))
        obtain ⟨x0, hx0⟩ : ∃ x, cu[j]? = some x := ⟨_, List.getElem?_eq_getElem (by have := hp.out; omega)⟩
        have c1 := num_cell k6 j x0 hx0
        have c2 : V2.shape? b = some (3, cu.length) := by simp [World.shape?, k6, numC]
        have c3 : V2.frozen? ⟨b, j, none⟩ = false := by simp [World.frozen?, k6]
        rw [hcl] at c2
        replace k6 := Lib.hid k6
        replace hcl := Lib.hid hcl
        clear hc hx0 hK2
        go_wp2_with fail
        go_roundw
        case rel =>
          refine ⟨j + 1, _, rfl, by first | rfl | exact congrArg (Value.int .i64) hw1, hp.out, hkk.out.setCell (by simp) _, vs ++ [y], cu.set j y, ?_, ?_, ?_, ?_, ?_⟩
          · rw [hmx.out, mapO_snoc, K.out.1, hv.out]
          · rw [List.length_append, K.out.2.1]; rfl
          · rw [List.length_set]; exact hcl.out
          · exact take_set K.out.2.2.2 (by rw [hcl.out]; exact hp.out)
          · exact set_numC k6.out j y
        case measure => first | exact ms_step hp.out rfl | exact ms_step hp.out hw1
    · obtain rfl : j = n := by omega
      have d1 : decide ((j : Int) < (j : Int)) = false := decide_eq_false (by omega)
      have hres : Hid (FilP (fun vs w' => w'.heap[b]? = some (.cells (numC vs).toArray 3 (0, 0))) (mapO numW (ws.take j)) W b (.returned (.bool true)) V) := by
        refine Lib.hid ?_
        rw [k1]
        refine ⟨rfl, ?_, hV⟩
        rw [← k4, List.take_of_length_le (by omega)]
        exact k5
      clear k1 k2 k3 k4 k5 hV hj hp hn hm hnm hm5 hn3 hR hlen
      go_wp2_with fail
      go_ret
      exact hres.out

set_option maxRecDepth 1000000 in
set_option maxHeartbeats 4000000 in
theorem oFillS (b n : Nat) (cur : List (List UInt8)) (g o m c : Nat) (ws : List (List UInt8)) (W : World) (hb : W.heap[b]? = some (.cells (txtC cur).toArray 9 (0, 0))) (hn : cur.length = n) (hn3 : n ≤ 3) (hm : ws.length = m) (hnm : n ≤ m) (hm5 : m ≤ 5)
    (hR : RdS g o ws W) (hgb : g ≠ b) (hlen : ∀ t ∈ ws, t.length ≤ 1099511627776) :
    Calls Tryd.prog 30 #[.slice (some ⟨b, 0, none⟩) n n, .slice (some ⟨g, o, none⟩) m c, .func (.func 18) #[] #[]] W fun e w' => FilP (fun vs w' => w'.heap[b]? = some (.cells (txtC vs).toArray 9 (0, 0))) (mapO bytS (ws.take n)) W b e w' := by
  replace hb := Lib.hid hb
  replace hR := Lib.hid hR
  replace hlen := Lib.hid hlen
  go_enter Tryd.func30, Tryd.ntmps30
  go_wp2_with fail
  go_loopw [12] (fun i wr => ∃ (j : Nat) (V : World), V = wr ∧ i = .int .i64 (j : Int) ∧ Hid (j ≤ n ∧ KeptIn (fun k => k < W.heap.size ∧ k ≠ b) W V ∧ ∃ vs cu, mapO bytS (ws.take j) = some vs ∧ vs.length = j ∧ cu.length = n ∧ cu.take j = vs ∧ V.heap[b]? = some (.cells (txtC cu).toArray 9 (0, 0)))) (fun i _ => n - (RowKit.intOf i).toNat)
  case atStart => exact ⟨0, _, rfl, rfl, Nat.zero_le _, .refl _ _, [], cur, rfl, rfl, hn, rfl, hb.out⟩
  case round =>
    obtain ⟨j, V, rfl, rfl, H⟩ := hrel
    obtain ⟨hj, hV, vs, cu, k1, k2, k3, k4, k5⟩ := H.out
    clear H hb
    by_cases hp : j < n
    · obtain ⟨t, ht⟩ : ∃ t, ws[j]? = some t := ⟨_, List.getElem?_eq_getElem (by omega)⟩
      have hc := rdS_old hR.out hV hgb j t ht
      have C := Lib.hid (oBytes t (hlen.out t (List.mem_of_getElem? ht)) V)
      have hmx : Hid (mapO bytS (ws.take (j + 1)) = mapO bytS (ws.take j ++ [t])) := Lib.hid (by rw [List.take_add_one, ht]; rfl)
      have d0 : decide ((0 : Int) ≤ (j : Int)) = true := decide_eq_true (by omega)
      have d1 : decide ((j : Int) < (n : Int)) = true := decide_eq_true (by omega)
      have d2 : (j : Int) < (n : Int) := by omega
      have d3 : (j : Int) < (m : Int) := by omega
      have d4 : decide ((j : Int) < (m : Int)) = true := decide_eq_true d3
      have d5 : (0 : Int) ≤ (j : Int) := by omega
      have hw1 := wrap_succ j (by omega)
      have K := Lib.hid (And.intro k1 (And.intro k2 (And.intro k3 k4)))
      replace k5 := Lib.hid k5
      replace hV := Lib.hid hV
      replace hp := Lib.hid hp
      have hnj := Lib.hid (take_none (n := n) (f := bytS) ht hp.out)
      replace ht := Lib.hid ht
      replace hn := Lib.hid hn
      replace hm := Lib.hid hm
      replace hgb := Lib.hid hgb
      clear k1 k2 k3 k4 hj hn3 hnm hm5
      cases hv : bytS t with
      | none =>
        rw [hv] at C
        replace hv := Lib.hid hv
        go_wp2_with fail
        refine C.out.mono ?_
        rintro e V2 ⟨rfl, hK2⟩
        replace hK2 := Lib.hid hK2
        clear hc
        go_wp2_with fail
        go_ret
        have hkk : KeptIn (fun k => k < W.heap.size ∧ k ≠ b) W V2 := hV.out.trans (hK2.out.mono fun k hk => Nat.lt_of_lt_of_le hk.1 hV.out.size)
        rw [hnj.out hv.out]
        exact ⟨rfl, hkk⟩
      | some y =>
        rw [hv] at C
        replace hv := Lib.hid hv
        go_wp2_with fail
        refine C.out.mono ?_
        rintro e V2 ⟨rfl, hK2⟩
        have k6 : V2.heap[b]? = some (.cells (txtC cu).toArray 9 (0, 0)) := by
          rw [hK2.block b (Array.getElem?_eq_some_iff.1 k5.out).1]
          exact k5.out
        have hcl : cu.length = n := K.out.2.2.1
        have hkk : Hid (KeptIn (fun k => k < W.heap.size ∧ k ≠ b) W V2) := Lib.hid (hV.out.trans (hK2.mono fun k hk => Nat.lt_of_lt_of_le hk.1 hV.out.size))
        obtain ⟨x0, hx0⟩ : ∃ x, cu[j]? = some x := ⟨_, List.getElem?_eq_getElem (by have := hp.out; omega)⟩
        have c1 := txt_cell k6 j x0 hx0
        have c2 : V2.shape? b = some (9, cu.length) := by simp [World.shape?, k6, txtC]
        have c3 : V2.frozen? ⟨b, j, none⟩ = false := by simp [World.frozen?, k6]
        rw [hcl] at c2
        replace k6 := Lib.hid k6
        replace hcl := Lib.hid hcl
        clear hc hx0 hK2
        go_wp2_with fail
        go_roundw
        case rel =>
          refine ⟨j + 1, _, rfl, by first | rfl | exact congrArg (Value.int .i64) hw1, hp.out, hkk.out.setCell (by simp) _, vs ++ [y], cu.set j y, ?_, ?_, ?_, ?_, ?_⟩
          · rw [hmx.out, mapO_snoc, K.out.1, hv.out]
          · rw [List.length_append, K.out.2.1]; rfl
          · rw [List.length_set]; exact hcl.out
          · exact take_set K.out.2.2.2 (by rw [hcl.out]; exact hp.out)
          · exact set_txtC k6.out j y
        case measure => first | exact ms_step hp.out rfl | exact ms_step hp.out hw1
    · obtain rfl : j = n := by omega
      have d1 : decide ((j : Int) < (j : Int)) = false := decide_eq_false (by omega)
      have hres : Hid (FilP (fun vs w' => w'.heap[b]? = some (.cells (txtC vs).toArray 9 (0, 0))) (mapO bytS (ws.take j)) W b (.returned (.bool true)) V) := by
        refine Lib.hid ?_
        rw [k1]
        refine ⟨rfl, ?_, hV⟩
        rw [← k4, List.take_of_length_le (by omega)]
        exact k5
      clear k1 k2 k3 k4 k5 hV hj hp hn hm hnm hm5 hn3 hR hlen
      go_wp2_with fail
      go_ret
      exact hres.out

end Go.Proofs.YtlldmebjgidbaaaDoor
