import Derived.Test.YtdbohcdjamhdjaaTv8W
import Derived.Test.YtdbohcdjamhdjaaV10
/- Layer 9's laws: a tree that grows by keys 0, 1, 2 ..: what it weighs, and the walk. -/
set_option linter.unusedVariables false
namespace Go.Proofs.Ytdbohcdjamhdjaa
open Go.RowKit

/-- Keys from 0 on, so many. -/
def rowG (n : Nat) : Pairs := (List.range n).map fun i => (i, i)
theorem rowG_length (n : Nat) : (rowG n).length = n := by simp [rowG]
theorem chg_row (j : Nat) : chg [(j, j)] j (rowG j) = rowG (j + 1) := by
  have h1 : ((rowG j).filter fun p => decide (p.1 < j)) = rowG j := by
    rw [List.filter_eq_self]
    intro p hp
    obtain ⟨i, hi, rfl⟩ := List.mem_map.1 hp
    simpa using hi
  have h2 : ((rowG j).filter fun p => decide (j < p.1)) = [] := by
    rw [List.filter_eq_nil_iff]
    intro p hp
    obtain ⟨i, hi, rfl⟩ := List.mem_map.1 hp
    have := List.mem_range.1 hi
    simp; omega
  unfold chg
  rw [h1, h2]
  simp [rowG, List.range_succ]

/-- A tree that weighs little is a single leaf. -/
theorem TrI.sharp {N : List Nd} {root f n : Nat} {qs : Pairs} (h : TrI N root qs f) (hf : f ≤ 15) (hn : qs.length ≤ n) : TrI N root qs (max n 8) := by
  obtain ⟨l, g, h1, h2, h3, h4⟩ := h
  refine ⟨l, g, h1, h2, h3, ?_⟩
  rcases h1 with ⟨_, _, rfl, _⟩ | ⟨ps, g', hS, h7, h15, rfl⟩
  · simp [phi]
  · have hp := phi_node hS.node (fit_good' hS.fit).2 hS.body
    have hfit : RootFit l ps := hS.fit
    obtain ⟨_, h0, hl⟩ := hfit
    rw [hp] at h4 ⊢
    have hb := hS.body
    unfold phiB at *
    by_cases hl0 : l = 0
    · subst hl0
      obtain ⟨rfl, _⟩ := hb
      rw [if_pos rfl, if_neg (by omega)]
      omega
    · obtain rfl : l = 1 := by omega
      rw [if_neg (by omega)] at h4
      have := kids_phi hb
      omega
/-- A tree of sixteen keys: a root, and two leaves. -/
theorem TrI.two {N : List Nd} {root n : Nat} {qs : Pairs} (h : TrI N root qs n) (hn : n ≤ 23) (hq : 15 < qs.length) : ∃ a b ka kb : Nat, ∃ ps : Pairs, TreeG N root 1 qs [root, a, b] ∧ [root, a, b].Nodup ∧ nodeOf N root = some (1, [(ka, a), (kb, b)]) ∧ ∃ pa pb, nodeOf N a = some (0, pa) ∧ nodeOf N b = some (0, pb) := by
  obtain ⟨l, g, h1, h2, h3, h4⟩ := h
  have ht := h1
  rcases h1 with ⟨_, rfl, _, _⟩ | ⟨ps, g', hS, h7, h15, rfl⟩
  · simp at hq
  · have hp := phi_node hS.node (fit_good' hS.fit).2 hS.body
    have hfit : RootFit l ps := hS.fit
    obtain ⟨_, h0, hl⟩ := hfit
    rw [hp] at h4
    have hb := hS.body
    unfold phiB at h4
    by_cases hl0 : l = 0
    · subst hl0
      obtain ⟨rfl, _⟩ := hb
      omega
    · obtain rfl : l = 1 := by omega
      rw [if_neg (by omega)] at h4
      have h8 := kids_phi hb
      have hnode := hS.node
      obtain ⟨⟨ka, a⟩, ⟨kb, b⟩, rfl⟩ : ∃ x y, ps = [x, y] := by
        match ps, h0, hl, h8 with
        | [], h0, _, _ => cases h0
        | [_], _, hl, _ => simp at hl
        | [x, y], _, _, _ => exact ⟨x, y, rfl⟩
        | _ :: _ :: _ :: r, _, _, h8 => exfalso; simp only [List.length_cons] at h8; omega
      obtain ⟨q1, q2, g1, g2, e1, rfl, ⟨n1, _, _, rfl⟩, _, _, ⟨q3, q4, g3, g4, e2, rfl, ⟨n2, _, _, rfl⟩, _, _, _, rfl⟩⟩ := hb
      exact ⟨a, b, ka, kb, [], ht, h2, hnode, q1, q3, n1, n2⟩

/-- What grown leaves. -/
def GrS (w3 : World) (s room n : Nat) (e : Ending) (w' : World) : Prop :=
  ∃ (r : Nat) (N : List Nd), e = .returned (.int .i64 (r : Int)) ∧ KeptIn (· < w3.heap.size) w3 w' ∧ ((r = 0 ∧ min room 511 ≤ 5 * n) ∨ (TrN w3 s room r (rowG n) (max n 8) N w' ∧ N.length ≤ 5 * n))
theorem TrN.kw9 {w3 W : World} {s room root f : Nat} {qs : Pairs} {N : List Nd} (h : TrN w3 s room root qs f N W) : KeptIn (· < w3.heap.size) w3 W := by
  obtain ⟨D, h1, h2, h3, h4, h5⟩ := h
  exact h5
theorem gr_step {w3 W : World} {s room r j : Nat} {N : List Nd} (h : TrN w3 s room r (chg [(j, j)] j (rowG j)) (max j 8 + 1) N W) : TrN w3 s room r (rowG (j + 1)) (max (j + 1) 8) N W := by
  rw [chg_row] at h
  obtain ⟨D, h1, h2, h3, h4, h5⟩ := h
  refine ⟨D, h1, ?_, h3, h4, h5⟩
  rcases Nat.lt_or_ge j 8 with h6 | h6
  · exact h2.sharp (by omega) (by rw [rowG_length]; exact Nat.le_refl _)
  · exact h2.mono (by omega)
theorem gr_room {a b j n : Nat} {m : Nat} (h : m ≤ a + b) (h1 : a ≤ 5 * j) (h2 : b ≤ 5) (h3 : j < n) : m ≤ 5 * n := by omega
theorem gr_conv (j n : Nat) (h : j < n) (hn : n ≤ 120) : IntKind.u64.wrap (j : Int) = (j : Int) ∧ (j : Int) % 18446744073709551616 = (j : Int) ∧ (0 : Int) ≤ (j : Int) ∧ (j : Int) < (n : Int) ∧ wrap64 ((j : Int) + 1) = ((j + 1 : Nat) : Int) := by
  refine ⟨?_, by omega, by omega, by omega, by unfold wrap64; omega⟩
  simp [IntKind.wrap, IntKind.signed, IntKind.bits]
  omega

set_option maxRecDepth 100000 in
set_option maxHeartbeats 2000000 in
theorem rcGrown {w3 W : World} {s room : Nat} (h : TrN w3 s room 0 [] 8 [] W) (n : Nat) (hn : n ≤ 120) : Calls Try.prog 22 #[.pointer (some ⟨s, 0, none⟩), .int .i64 (n : Int)] W (GrS w3 s room n) := by
  have HI0 : Hid (TrN w3 s room 0 (rowG 0) (max 0 8) [] W ∧ ([] : List Nd).length ≤ 5 * 0) := Lib.hid ⟨h, Nat.le_refl _⟩
  clear h
  go_enter Try.func22, Try.ntmps22
  go_wp2_with fail
  go_loopw [5, 6, 7, 8] (fun r i _ _ wr => ∃ (j root : Nat) (V : World) (N : List Nd), V = wr ∧ j ≤ n ∧ i = .int .i64 (j : Int) ∧ r = .int .i64 (root : Int) ∧ Hid (TrN w3 s room root (rowG j) (max j 8) N V ∧ N.length ≤ 5 * j)) (fun _ i _ _ _ => n - (RowKit.intOf i).toNat)
  case atStart => exact ⟨0, 0, _, _, rfl, Nat.zero_le _, rfl, rfl, HI0⟩
  case round =>
    obtain ⟨j, root, V, N, rfl, hj, rfl, rfl, HJ⟩ := hrel
    clear HI0
    by_cases hlt : j < n
    · obtain ⟨k1, k2, d0, d1, k3⟩ := gr_conv j n hlt hn
      have HC := Lib.hid (tnPut (k := j) (v := j) HJ.out.1 (by omega) (by omega) (by omega) (by omega))
      unfold pgV at HC
      have HK3 := Lib.hid k3
      clear k3
      go_wp2_with fail
      refine HC.out.mono ?_
      rintro e V2 ⟨r, er, M, rfl, hM, hfr, hor⟩
      clear HC k1 k2
      rcases hor with ⟨rfl, rfl, ht, hr⟩ | ⟨rfl, ht⟩
      · have HE : Hid (GrS w3 s room n (.returned (.int .i64 ((0 : Nat) : Int))) V2) := Lib.hid ⟨0, [], rfl, ht.kw9, .inl ⟨rfl, gr_room (by rw [List.length_append] at hr; exact hr) HJ.out.2 hM hlt⟩⟩
        clear ht hr HJ hM hfr
        go_wp2_with fail
        go_ret
        exact HE.out
      · have HJ2 : Hid (TrN w3 s room r (rowG (j + 1)) (max (j + 1) 8) (N ++ M) V2 ∧ (N ++ M).length ≤ 5 * (j + 1)) := Lib.hid ⟨gr_step ht, by rw [List.length_append]; have := HJ.out.2; omega⟩
        clear ht HJ hM hfr
        have k3 := HK3.out
        go_wp2_with fail
        go_roundw
        case rel => exact ⟨j + 1, _, _, _, rfl, by omega, by first | rfl | exact congrArg (Value.int .i64) k3, rfl, HJ2⟩
        case measure => simp only [RowKit.intOf]; omega
    · obtain rfl : j = n := by omega
      have d1 : ¬ (j : Int) < (j : Int) := by omega
      clear hlt hj
      have HE : Hid (GrS w3 s room j (.returned (.int .i64 (root : Int))) V) := Lib.hid ⟨root, N, rfl, HJ.out.1.kw9, .inr HJ.out⟩
      clear HJ
      go_wp2_with fail
      go_ret
      exact HE.out

end Go.Proofs.Ytdbohcdjamhdjaa
