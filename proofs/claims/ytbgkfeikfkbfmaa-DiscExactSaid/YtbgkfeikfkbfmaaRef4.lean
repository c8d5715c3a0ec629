/- The reference of layer 4 (tierceref04): its device in memory; Fits, Text. -/
import Derived.Test.YtbgkfeikfkbfmaaAw4
import Derived.OwnWalk
import Derived.Deep.QuietTactic
import Derived.BigQuiet
set_option linter.unusedVariables false
namespace Go.Proofs.Ytbgkfeikfkbfmaa
open Go.RowKit

/-- A string of bytes as a value. -/
def strV (l : List UInt8) : Value := .string ⟨l.toArray⟩

/-- A row of one-cell values of the call's own, seen by a slice's value: its block, its cells. -/
theorem row_at {w : World} {B n : Nat} {T : TypeId} {v : Value} {xs : List Value} (h : w.ownsRow B T 1 v n xs) (hn : 0 < n) :
    ∃ g cap, v = .slice (some ⟨g, 0, none⟩) n cap ∧ B ≤ g ∧ g < w.heap.size ∧ n ≤ cap ∧ cap ≤ maxLen ∧ (∀ j u, xs[j]? = some u → w.cell? ⟨g, j, none⟩ = some u) ∧ ∀ j, w.frozen? ⟨g, j, none⟩ = false := by
  rcases h.2 with ⟨_, h0⟩ | ⟨g, cap, cur, rfl, hg, hb, hc, hm, hs, ht⟩
  · omega
  · refine ⟨g, cap, rfl, hg, (Array.getElem?_eq_some_iff.1 hb).1, hc, hm, fun j u hj => ?_, fun j => frozen_of_row w g j _ _ hb⟩
    rw [cell_of_row w g j _ _ _ hb]
    rw [← ht, List.getElem?_take] at hj
    split at hj
    · simpa using hj
    · cases hj

theorem row_shape {w : World} {B n : Nat} {T : TypeId} {v : Value} {xs : List Value} (h : w.ownsRow B T 1 v n xs) : ∃ a cap, v = .slice a n cap ∧ (n : Int) ≤ 9223372036854775807 := by
  rcases h.2 with ⟨rfl, h0⟩ | ⟨g, cap, cur, rfl, hg, hb, hc, hm, hs, ht⟩
  · exact ⟨none, 0, by rw [h0], by omega⟩
  · exact ⟨_, cap, rfl, by unfold maxLen at hm; omega⟩

theorem row_block {w w' : World} {B n : Nat} {T : TypeId} {v : Value} {xs : List Value} (h : w.ownsRow B T 1 v n xs) (hb : ∀ g, v.ownBlock = some g → w'.heap[g]? = w.heap[g]?) : w'.ownsRow B T 1 v n xs := by
  refine ⟨h.1, ?_⟩
  rcases h.2 with h1 | ⟨g, cap, cur, rfl, hg, hb', r⟩
  · exact .inl h1
  · exact .inr ⟨g, cap, cur, rfl, hg, (hb g rfl).trans hb', r⟩

/-- An element is stored. -/
theorem row_set {w : World} {B n g cap : Nat} {T : TypeId} {xs : List Value} (h : w.ownsRow B T 1 (.slice (some ⟨g, 0, none⟩) n cap) n xs) (j : Nat) (hj : j < n) (x : Value) :
    (w.setCell ⟨g, j, none⟩ x).ownsRow B T 1 (.slice (some ⟨g, 0, none⟩) n cap) n (xs.set j x) := by
  refine ⟨by simpa using h.1, ?_⟩
  rcases h.2 with ⟨h1, _⟩ | ⟨g', cap', cur, h1, hg, hb, hc, hm, hs, ht⟩
  · cases h1
  · simp only [Value.slice.injEq, Option.some.injEq, Addr.mk.injEq, and_true, true_and] at h1
    obtain ⟨rfl, rfl⟩ := h1
    refine .inr ⟨g, cap, cur.setIfInBounds j x, rfl, hg, heap_setCell_same _ _ _ _ _ _ hb, hc, hm, by simpa using hs, ?_⟩
    rw [← ht, Array.toList_setIfInBounds, List.take_set]

/-- The reference's device. -/
structure IsU (B u : Nat) (vn vs vl : Value) (Nw Sf : List (List UInt8)) (Ls : List Bool) (w : World) : Prop where
  hu : w.heap[u]? = some (.cells #[vn, vs, vl] 40 (0, 0))
  hB : B ≤ u
  rn : w.ownsRow B 9 1 vn Nw.length (Nw.map strV)
  rs : w.ownsRow B 9 1 vs Sf.length (Sf.map strV)
  rl : w.ownsRow B 4 1 vl Ls.length (Ls.map Value.bool)
  ls : Sf.length = Nw.length
  ll : Ls.length = Nw.length
  ne : ∀ g, vn.ownBlock = some g → vs.ownBlock ≠ some g

section
variable {B u : Nat} {vn vs vl : Value} {Nw Sf : List (List UInt8)} {Ls : List Bool} {w w' : World}

theorem IsU.c0 (h : IsU B u vn vs vl Nw Sf Ls w) : w.cell? ⟨u, 0, none⟩ = some vn := by simp [World.cell?, h.hu]
theorem IsU.c1 (h : IsU B u vn vs vl Nw Sf Ls w) : w.cell? ⟨u, 1, none⟩ = some vs := by simp [World.cell?, h.hu]
theorem IsU.c2 (h : IsU B u vn vs vl Nw Sf Ls w) : w.cell? ⟨u, 2, none⟩ = some vl := by simp [World.cell?, h.hu]
theorem IsU.lt (h : IsU B u vn vs vl Nw Sf Ls w) : u < w.heap.size := (Array.getElem?_eq_some_iff.1 h.hu).1

/-- Where what lies at or beyond B stands, the device does. -/
theorem IsU.kept {X : Nat → Prop} (h : IsU B u vn vs vl Nw Sf Ls w) (hk : KeptIn X w w') (hX : ∀ k, k < w.heap.size → X k) : IsU B u vn vs vl Nw Sf Ls w' :=
  ⟨(hk.block u (hX u h.lt)).trans h.hu, h.hB, row_block h.rn fun g e => hk.block g (hX g (h.rn.lt g e).2), row_block h.rs fun g e => hk.block g (hX g (h.rs.lt g e).2), row_block h.rl fun g e => hk.block g (hX g (h.rl.lt g e).2), h.ls, h.ll, h.ne⟩

theorem row_ne {v : Value} {n k : Nat} {T T' : TypeId} {xs : List Value} {cs : Array Value} {fr : Nat × Nat} (h : w.ownsRow B T 1 v n xs) (hk : w.heap[k]? = some (.cells cs T' fr)) (ht : T' ≠ T) : v.ownBlock ≠ some k := Lib.ownBlock_ne h hk ht

end

/-- The bytes of strings, one behind the other. -/
theorem flat_take_succ (xs : List (List UInt8)) (j : Nat) (h : j < xs.length) : (xs.take (j + 1)).flatten = (xs.take j).flatten ++ xs[j] := by
  rw [List.take_succ_eq_append_getElem h, List.flatten_append, List.flatten_cons, List.flatten_nil, List.append_nil]

set_option maxRecDepth 100000 in
theorem r4Text (a : Option Addr) (cap : Nat) (xs : List (List UInt8)) (w : World) (h : 0 < xs.length → ∃ g off, a = some ⟨g, off, none⟩ ∧ ∀ j x, xs[j]? = some x → w.cell? ⟨g, off + j, none⟩ = some (strV x)) (h16 : ∀ x ∈ xs, x.length = 16) (hn : xs.length ≤ 16384) :
    Calls Try.prog 14 #[.slice a xs.length cap] w fun e w' => e = .returned (.string ⟨xs.flatten.toArray⟩) ∧ w = w' := by
  obtain ⟨n, hN⟩ : ∃ n, xs.length = n := ⟨_, rfl⟩
  have H := Lib.hid h; have H16 := Lib.hid h16
  rw [hN] at H hn ⊢
  have HN := Lib.hid hN
  have hnn : (n : Int) ≤ 16384 := by omega
  obtain ⟨out, hout⟩ : ∃ o, xs.flatten = o := ⟨_, rfl⟩
  rw [hout]
  have HO := Lib.hid hout
  clear h h16 hN hout
  go_enter Try.func14, Try.ntmps14
  go_wp2_with fail
  go_loopw [3, 4] (fun s c wr => ∃ (j : Nat) (W : World), W = wr ∧ w = W ∧ j ≤ n ∧ c = .int .i64 j ∧ s = .string ⟨(xs.take j).flatten.toArray⟩) (fun _ c _ => n - (RowKit.intOf c).toNat)
  case atStart => exact ⟨0, w, rfl, rfl, Nat.zero_le _, rfl, rfl⟩
  case round =>
    obtain ⟨j, W, rfl, rfl, hj, rfl, rfl⟩ := hrel
    by_cases hlt : j < n
    · have i0 : (0 : Int) ≤ (j : Int) := by omega
      have i1 : (j : Int) < (n : Int) := by omega
      have hjx : j < xs.length := by rw [HN.out]; exact hlt
      obtain ⟨g, off, rfl, hc⟩ := H.out (by omega)
      have hcj := hc j xs[j] (List.getElem?_eq_getElem hjx)
      have hx16 : xs[j].length = 16 := H16.out _ (List.getElem_mem hjx)
      have hfl : (xs.take j).flatten.length = 16 * j := by rw [flat_length _ (fun x hx => H16.out x (List.mem_of_mem_take hx)), List.length_take]; omega
      have hstep := flat_take_succ xs j hjx
      obtain ⟨x, hx⟩ : ∃ x, xs[j] = x := ⟨_, rfl⟩
      obtain ⟨t, ht⟩ : ∃ t, (xs.take j).flatten = t := ⟨_, rfl⟩
      obtain ⟨t2, ht2⟩ : ∃ t, (xs.take (j + 1)).flatten = t := ⟨_, rfl⟩
      rw [hx] at hcj hx16 hstep
      rw [ht] at hfl hstep
      rw [ht2] at hstep
      rw [ht]
      unfold strV at hcj
      have HST : Hid ((⟨t.toArray⟩ : ByteArray) ++ ⟨x.toArray⟩ = ⟨(xs.take (j + 1)).flatten.toArray⟩) := Lib.hid (by rw [joinB, ht2, hstep])
      clear hc hx ht ht2 hstep hjx
      go_wp2
      go_roundw
      case rel => exact ⟨j + 1, _, rfl, rfl, by omega, by go_num, by rw [HST.out]⟩
      case measure => simp [RowKit.intOf]; omega
    · obtain rfl : j = n := by omega
      have HE : Hid ((xs.take j).flatten = out) := Lib.hid (by rw [← HO.out, List.take_of_length_le (by rw [HN.out]; exact Nat.le_refl _)])
      rw [HE.out]
      go_wp2
      go_ret
      exact ⟨rfl, rfl⟩

set_option maxHeartbeats 1000000 in
theorem r4Fits (B u : Nat) (vn vs vl : Value) (Nw Sf : List (List UInt8)) (Ls : List Bool) (x y : Int) (w : World) (h : IsU B u vn vs vl Nw Sf Ls w) (hx : I64 x) (hy : I64 y) (hm : Nw.length ≤ 16384) :
    Calls Try.prog 27 #[.pointer (some ⟨u, 0, none⟩), .int .i64 x, .int .i64 y] w fun e w' => e = .returned (.bool (fits Nw.length x y)) ∧ w = w' := by
  have c0 := h.c0
  obtain ⟨a, cap, rfl, _⟩ := row_shape h.rn
  clear h
  obtain ⟨n, hn⟩ : ∃ n, Nw.length = n := ⟨_, rfl⟩
  rw [hn] at c0 hm ⊢
  have hm' : (n : Int) ≤ 16384 := by omega
  obtain ⟨f, hf⟩ : ∃ f, fits n x y = f := ⟨_, rfl⟩
  rw [hf]
  have HF := Lib.hid hf
  clear hf hn hm hx hy
  by_cases hx : x < 0
  · obtain rfl : f = false := by rw [← HF.out]; simp [fits]; omega
    go_enter Try.func27, Try.ntmps27
    go_wp2
    go_ret
    exact ⟨rfl, rfl⟩
  · have hx0 : 0 ≤ x := by omega
    clear hx
    by_cases hy : y < 0
    · obtain rfl : f = false := by rw [← HF.out]; simp [fits]; omega
      go_enter Try.func27, Try.ntmps27
      go_wp2
      go_ret
      exact ⟨rfl, rfl⟩
    · have hy0 : 0 ≤ y := by omega
      clear hy
      by_cases hxu : (n : Int) < x
      · obtain rfl : f = false := by rw [← HF.out]; simp [fits]; omega
        go_enter Try.func27, Try.ntmps27
        go_wp2
        go_ret
        exact ⟨rfl, rfl⟩
      · have hxu' : x ≤ (n : Int) := by omega
        clear hxu
        have HY : Hid (f = decide (y ≤ (n : Int) - x)) := Lib.hid (by
          rw [← HF.out]
          simp only [fits, decide_eq_true hx0, decide_eq_true hy0, Bool.true_and]
          exact decide_eq_decide.2 (by omega))
        go_enter Try.func27, Try.ntmps27
        go_wp2
        go_ret
        exact ⟨by rw [HY.out]; rfl, rfl⟩

end Go.Proofs.Ytbgkfeikfkbfmaa
