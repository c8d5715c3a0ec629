/- The reference of layer 4 (tierceref04): List, Flush. -/
import Derived.Test.YtbgkfeikfkbfmaaRef4
import Derived.Maps.AppendAt
import Derived.BigRegion
import Derived.Deep.RegionHeld3
set_option linter.unusedVariables false
namespace Go.Proofs.Ytbgkfeikfkbfmaa
open Go.RowKit

theorem infoInt : (Try.prog.info? 3).map (fun i => (i.zero, i.size, i.bytes)) = some (some (.int .i64 0), 1, 8) := by kernel_rfl

/-- The places of what is true, from the first j. -/
def trues (Ls : List Bool) (j : Nat) : List Int := ((List.range j).filter fun i => Ls.getD i false).map Int.ofNat

theorem trues_succ (Ls : List Bool) (j : Nat) : trues Ls (j + 1) = if Ls.getD j false then trues Ls j ++ [(j : Int)] else trues Ls j := by
  unfold trues
  rw [List.range_succ, List.filter_append]
  cases h : Ls.getD j false with
  | true =>
    have e : ([j].filter fun i => Ls.getD i false) = [j] := by rw [List.filter_cons, if_pos h, List.filter_nil]
    rw [e, List.map_append]
    rfl
  | false =>
    have e : ([j].filter fun i => Ls.getD i false) = [] := by rw [List.filter_cons, if_neg (by rw [h]; simp), List.filter_nil]
    rw [e, List.append_nil]
    rfl

theorem trues_length (Ls : List Bool) (j : Nat) : (trues Ls j).length ≤ j := by
  have := List.length_filter_le (fun i => Ls.getD i false) (List.range j)
  simp only [trues, List.length_map]
  rwa [List.length_range] at this

set_option maxHeartbeats 1000000 in
set_option maxRecDepth 100000 in
theorem r4List (B u : Nat) (vn vs vl : Value) (Nw Sf : List (List UInt8)) (Ls : List Bool) (w : World) (h : IsU B u vn vs vl Nw Sf Ls w) (hm : Nw.length ≤ 16384) :
    Calls Try.prog 12 #[.pointer (some ⟨u, 0, none⟩)] w fun e w' => ∃ v, e = .returned v ∧ IntsAt w.heap.size v (trues Ls Ls.length) w' ∧ KeptIn (· < w.heap.size) w w' := by
  obtain ⟨i0, hi, hz0, hz1, hz2⟩ := info_parts infoInt
  have c2 := h.c2
  have hltu := h.lt
  have hrl := h.rl
  obtain ⟨a, cap, rfl, _⟩ := row_shape hrl
  obtain ⟨n, hn⟩ : ∃ n, Ls.length = n := ⟨_, rfl⟩
  have hnn : n ≤ 16384 := by have := h.ll; omega
  have HN : Hid (Ls.length = n) := Lib.hid hn
  have hrow : 0 < n → ∃ g, a = some ⟨g, 0, none⟩ ∧ g < w.heap.size ∧ (n ≤ cap) ∧ ∀ j b, Ls[j]? = some b → w.cell? ⟨g, j, none⟩ = some (.bool b) := by
    intro h0
    obtain ⟨g, cap', e, _, hg, hc, _, hcell, _⟩ := row_at hrl (by rw [hn]; exact h0)
    simp only [Value.slice.injEq, true_and] at e
    obtain ⟨rfl, rfl⟩ := e
    exact ⟨g, rfl, hg, by rw [← hn]; exact hc, fun j b hb => hcell j _ (by simp [hb])⟩
  have HR := Lib.hid hrow
  have C2 := Lib.hid c2
  rw [hn] at C2 ⊢
  clear h hrl hrow hm hn c2
  have hnI : (n : Int) ≤ 16384 := by omega
  go_enter Try.func12, Try.ntmps12
  go_wp2_with fail
  have HJ0 : Hid ((w.alloc (.cells #[] 3)).ownsRow w.heap.size 3 1 (.slice (some ⟨w.heap.size, 0, none⟩) 0 0) (trues Ls 0).length ((trues Ls 0).map encZ) ∧ KeptIn (· < w.heap.size) w (w.alloc (.cells #[] 3))) :=
    Lib.hid ⟨World.ownsRow_made w #[] 0 (Nat.le_refl _) (by decide) rfl, (KeptIn.refl _ w).alloc (fun _ h => h) _⟩
  have hle : ∀ j, (trues Ls j).length ≤ j := trues_length Ls
  have HLE := Lib.hid hle
  clear hle
  go_loopw [3, 4] (fun v c wr => ∃ (j : Nat) (W : World) (v0 : Value), W = wr ∧ v0 = v ∧ j ≤ n ∧ c = .int .i64 j ∧ Hid (W.ownsRow w.heap.size 3 1 v0 (trues Ls j).length ((trues Ls j).map encZ) ∧ KeptIn (· < w.heap.size) w W)) (fun _ c _ => n - (RowKit.intOf c).toNat)
  case atStart => exact ⟨0, _, _, rfl, rfl, Nat.zero_le _, rfl, HJ0⟩
  case round =>
    obtain ⟨j, W, v0, rfl, rfl, hj, rfl, HJ⟩ := hrel
    clear HJ0
    have c2 : W.cell? ⟨u, 2, none⟩ = some (.slice a n cap) := (World.cell?_of_block (a := ⟨u, 2, none⟩) (HJ.out.2.block u hltu)).trans C2.out
    by_cases hlt : j < n
    · have i0' : (0 : Int) ≤ (j : Int) := by omega
      have i1 : (j : Int) < (n : Int) := by omega
      obtain ⟨g, rfl, hg, hcap, hcell⟩ := HR.out (by omega)
      have hjl : j < Ls.length := by rw [HN.out]; exact hlt
      have hts := trues_succ Ls j
      rw [List.getD_eq_getElem?_getD, List.getElem?_eq_getElem hjl, Option.getD_some] at hts
      obtain ⟨b, hb⟩ : ∃ b, Ls[j] = b := ⟨_, rfl⟩
      have hc := hcell j b (by rw [List.getElem?_eq_getElem hjl, hb])
      have hcW : W.cell? ⟨g, j, none⟩ = some (.bool b) := (World.cell?_of_block (a := ⟨g, j, none⟩) (HJ.out.2.block g hg)).trans hc
      rw [hb] at hts
      clear hcell hc hb hjl
      cases b with
      | false =>
        rw [if_neg (by simp)] at hts
        have HJ2 : Hid (W.ownsRow w.heap.size 3 1 v0 (trues Ls (j + 1)).length ((trues Ls (j + 1)).map encZ) ∧ KeptIn (· < w.heap.size) w W) := Lib.hid (by rw [hts]; exact HJ.out)
        clear HJ hts
        go_wp2_with fail
        go_roundw
        case rel => exact ⟨j + 1, _, _, rfl, rfl, by omega, by go_num, HJ2⟩
        case measure => simp [RowKit.intOf]; omega
      | true =>
        rw [if_pos rfl] at hts
        have hrow := HJ.out.1
        have HTS := Lib.hid hts
        have hsz := HJ.out.2.size
        have hlen := HLE.out j
        clear hts
        obtain ⟨K, hK⟩ : ∃ K, (trues Ls j).length = K := ⟨_, rfl⟩
        obtain ⟨xs, hxs⟩ : ∃ xs, (trues Ls j).map encZ = xs := ⟨_, rfl⟩
        rw [hK] at hlen
        rw [hK, hxs] at hrow
        have HX := Lib.hid (And.intro hK hxs)
        clear hK hxs
        go_wp2_with (at_builtin; refine wpList_append_own _ rfl _ _ 33 rfl w.heap.size 3 i0 (.int .i64 0) 1 8 Try.underlying33 hi hz0 hz1 hz2 rfl (by decide) _ _ _ rfl (hrow.alloc _) ⟨W.heap.size, 0, none⟩ 1 1 [.int .i64 (j : Int)] rfl rfl (cell_one_new _ _ _) (by simp [Value.oneCell']) (by unfold maxLen; omega) (by omega) (by simp; omega) ?_)
        intro v' w2 hown' hgrow _
        have HJ2 : Hid (w2.ownsRow w.heap.size 3 1 v' (trues Ls (j + 1)).length ((trues Ls (j + 1)).map encZ) ∧ KeptIn (· < w.heap.size) w w2) := Lib.hid ⟨by
          rw [HTS.out, List.length_append, HX.out.1, List.map_append, HX.out.2]
          exact hown', (HJ.out.2.alloc (fun _ h => h) _).grown (fun _ h => h) hgrow (fun g' hg' hlt' => by
            have := (hrow.lt g' hg').1
            omega)⟩
        clear hown' hgrow hrow HJ HTS HX
        go_wp2_with fail
        go_roundw
        case rel => exact ⟨j + 1, _, _, rfl, rfl, by omega, by go_num, HJ2⟩
        case measure => simp [RowKit.intOf]; omega
    · obtain rfl : n = j := by omega
      have HE : Hid (IntsAt w.heap.size v0 (trues Ls n) W ∧ KeptIn (· < w.heap.size) w W) := Lib.hid HJ.out
      clear HJ
      go_wp2
      go_ret
      exact ⟨v0, rfl, HE.out.1, HE.out.2⟩

end Go.Proofs.Ytbgkfeikfkbfmaa
