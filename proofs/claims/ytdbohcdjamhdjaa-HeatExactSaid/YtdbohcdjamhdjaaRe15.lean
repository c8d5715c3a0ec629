/- The document's heats (tierceref15): a row of 1024 numbers. -/
import Derived.Test.YtdbohcdjamhdjaaRu15
import Derived.BigRegion
set_option linter.unusedVariables false
namespace Go.Proofs.Ytdbohcdjamhdjaa
open Go.RowKit Go.Maps

/-- The document's book. -/
def bookL (f : Int → Nat) : List Nat := (List.range 1024).map fun i : Nat => f (i : Int)
theorem bookL_length (f : Int → Nat) : (bookL f).length = 1024 := by unfold bookL; rw [List.length_map, List.length_range]
theorem bookL_at (f : Int → Nat) {i : Nat} (h : i < 1024) : (bookL f)[i]? = some (f (i : Int)) := by
  unfold bookL
  rw [List.getElem?_map, List.getElem?_range h]
  rfl
theorem bookL_set (f : Int → Nat) {i : Nat} (h : i < 1024) (x : Nat) : (bookL f).set i x = bookL (htS f (i : Int) x) := by
  refine List.ext_getElem? fun j => ?_
  rw [List.getElem?_set]
  by_cases hj : j < 1024
  · rw [bookL_at (htS f (i : Int) x) hj]
    by_cases e : i = j
    · subst e
      rw [if_pos rfl, bookL_length, if_pos h, htS_same]
    · rw [if_neg e, bookL_at f hj, htS_other _ _ (by omega)]
  · have h1 : (bookL f)[j]? = none := List.getElem?_eq_none (by rw [bookL_length]; omega)
    have h2 : (bookL (htS f (i : Int) x))[j]? = none := List.getElem?_eq_none (by rw [bookL_length]; omega)
    rw [h1, h2, if_neg (by omega)]
theorem bookL_zero : bookL (fun _ => 0) = zerosK := by
  refine List.ext_getElem (by rw [bookL_length, zerosK_length]) fun i h1 h2 => ?_
  simp only [bookL, zerosK, List.getElem_map, List.getElem_replicate]

/-- What a deed of the document's book leaves. -/
def ReD (g : Nat) (f : Int → Nat) (W : World) (e : Ending) (W' : World) : Prop :=
  e = .returned (.tuple #[]) ∧ RowU 49 g (bookL f) W' ∧ KeptIn (· ≠ g) W W'

theorem re_num (x k : Nat) (h1 : x ≤ 1048576) (h2 : k ≤ 9223372036854775807) : wrap64 (1048576 - (x : Int)) = 1048576 - (x : Int) ∧ (0 : Int) ≤ (x : Int) ∧ (x : Int) ≤ 1048576 ∧ (0 : Int) ≤ (k : Int) ∧ (k : Int) ≤ 9223372036854775807 := by
  unfold wrap64; omega

section
variable {g : Nat} {f : Int → Nat} {W : World}
set_option maxRecDepth 100000 in
theorem r15Touch (H : RowU 49 g (bookL f) W) (hm : ∀ c, f c ≤ 1048576) (c n : Int) (hc : (Lit.int .i64 c).wf = true) (hn : (Lit.int .i64 n).wf = true) :
    Calls Try.prog 14 #[.pointer (some ⟨g, 0, none⟩), .int .i64 c, .int .i64 n] W (ReD g (tch f c n) W) := by
  have bn := bounds_i64 hn
  by_cases h : 1 ≤ c ∧ c ≤ 1023 ∧ 0 < n
  · have e : tch f c n = htS f c (min 1048576 (f c + n.toNat)) := if_pos h
    rw [e]
    obtain ⟨h1, h2, h3⟩ := h
    obtain ⟨i, rfl⟩ : ∃ i : Nat, c = i := ⟨c.toNat, by omega⟩
    obtain ⟨k, rfl⟩ : ∃ k : Nat, n = k := ⟨n.toNat, by omega⟩
    have hx := hm (i : Int)
    obtain ⟨x, hfx⟩ : ∃ x, f (i : Int) = x := ⟨_, rfl⟩
    have ce := H.cell (bookL_at f (i := i) (by omega))
    have fr := H.fro i
    rw [hfx] at hx ce ⊢
    have HS : Hid (∀ (y : Nat) (V : World), y = min 1048576 (x + k) → V.heap = (W.setCell ⟨g, i, none⟩ (.int .i64 (y : Int))).heap → KeptIn (· ≠ g) W V → ReD g (htS f (i : Int) (min 1048576 (x + (k : Int).toNat))) W (.returned (.tuple #[])) V) := Lib.hid fun y V hy hV hk => by
      subst hy
      refine ⟨rfl, ?_, hk⟩
      have := H.set i (min 1048576 (x + k))
      rw [bookL_set _ (by omega)] at this
      unfold RowU at this ⊢
      rw [hV]
      exact this
    obtain ⟨y1, y2, y3, y4, y5⟩ := re_num x k hx (by omega)
    have z1 : (0 : Int) ≤ (i : Int) := by omega
    have z2 : (i : Int) < 1024 := by omega
    have z3 : ¬ (i : Int) < 1 := by omega
    have z4 : ¬ (1023 : Int) < (i : Int) := by omega
    have z5 : ¬ (k : Int) ≤ 0 := by omega
    have z6 : i < 1024 := by omega
    clear H e hm hfx bn h1 h2 h3 hc hn
    by_cases hb : (1048576 : Int) - (x : Int) < (k : Int)
    · have hy := HS.out 1048576 (W.setCell ⟨g, i, none⟩ (.int .i64 (1048576 : Int))) (by omega) rfl ((KeptIn.refl _ W).setCell (by simp) _)
      have HY := Lib.hid hy
      clear hy HS
      go_enter Try.func14, Try.ntmps14
      go_wp2_with fail
      go_end0
      exact HY.out
    · have hy := fun V => HS.out (x + k) V (by omega)
      rw [Int.natCast_add] at hy
      have y6 : IntKind.i64.wrap ((x : Int) + (k : Int)) = (x : Int) + (k : Int) := IntWalk.i64_in _ (by omega)
      have HY := Lib.hid hy
      clear hy HS
      go_enter Try.func14, Try.ntmps14
      go_wp2_with fail
      go_region
      go_end0
      exact HY.out _ rfl (((KeptIn.refl _ W).drew).setCell (by simp) _)
  · have e : tch f c n = f := if_neg h
    rw [e]
    clear e
    by_cases h1 : c < 1
    · clear h
      have HS := Lib.hid (show ReD g f W (.returned (.tuple #[])) W from ⟨rfl, H, KeptIn.refl _ _⟩)
      clear H hm
      go_enter Try.func14, Try.ntmps14
      go_wp2_with fail
      refine bodyPost_ret (results_none rfl _ _ _) rfl ?_
      exact HS.out
    · by_cases h2 : 1023 < c
      · clear h
        have HS := Lib.hid (show ReD g f W (.returned (.tuple #[])) W from ⟨rfl, H, KeptIn.refl _ _⟩)
        clear H hm
        go_enter Try.func14, Try.ntmps14
        go_wp2_with fail
        refine bodyPost_ret (results_none rfl _ _ _) rfl ?_
        exact HS.out
      · have h3 : n ≤ 0 := by omega
        clear h
        have HS := Lib.hid (show ReD g f W (.returned (.tuple #[])) W from ⟨rfl, H, KeptIn.refl _ _⟩)
        clear H hm
        go_enter Try.func14, Try.ntmps14
        go_wp2_with fail
        refine bodyPost_ret (results_none rfl _ _ _) rfl ?_
        exact HS.out

theorem r15Of (H : RowU 49 g (bookL f) W) (hr : ∀ c, f c ≠ 0 → 1 ≤ c ∧ c ≤ 1023) (c : Int) :
    Calls Try.prog 19 #[.pointer (some ⟨g, 0, none⟩), .int .i64 c] W fun e w' => e = .returned (.int .i64 (f c : Int)) ∧ W = w' := by
  by_cases h : 1 ≤ c ∧ c ≤ 1023
  · obtain ⟨i, rfl⟩ : ∃ i : Nat, c = i := ⟨c.toNat, by omega⟩
    have ce := H.cell (bookL_at f (i := i) (by omega))
    generalize f (i : Int) = x at *
    have z1 : (0 : Int) ≤ (i : Int) := by omega
    have z2 : (i : Int) < 1024 := by omega
    have z3 : ¬ (i : Int) < 1 := by omega
    have z4 : ¬ (1023 : Int) < (i : Int) := by omega
    have z6 : i < 1024 := by omega
    clear H hr h
    go_enter Try.func19, Try.ntmps19
    go_wp2_with fail
    go_ret
    exact ⟨rfl, rfl⟩
  · have e : f c = 0 := Classical.byContradiction fun e => h (hr c e)
    rw [e]
    clear e hr H
    by_cases h1 : c < 1
    · clear h
      go_enter Try.func19, Try.ntmps19
      go_wp2_with fail
      go_ret
      exact ⟨rfl, rfl⟩
    · have h2 : 1023 < c := by omega
      clear h
      go_enter Try.func19, Try.ntmps19
      go_wp2_with fail
      go_ret
      exact ⟨rfl, rfl⟩

/-- The first j are halved. -/
def dcyN (f : Int → Nat) (j : Nat) : Int → Nat := fun c => if 0 ≤ c ∧ c < j then f c / 2 else f c
theorem dcyN_zero (f : Int → Nat) : dcyN f 0 = f := by
  funext c
  unfold dcyN
  rw [if_neg (by omega)]
theorem dcyN_succ (f : Int → Nat) (j : Nat) : htS (dcyN f j) (j : Int) (f (j : Int) / 2) = dcyN f (j + 1) := by
  funext c
  unfold htS dcyN
  by_cases h : c = (j : Int)
  · subst h
    rw [if_pos rfl, if_pos (by omega)]
  · rw [if_neg h]
    by_cases h2 : 0 ≤ c ∧ c < (j : Int)
    · rw [if_pos h2, if_pos (by omega)]
    · rw [if_neg h2, if_neg (by omega)]
theorem dcyN_at (f : Int → Nat) (j : Nat) : dcyN f j (j : Int) = f (j : Int) := by unfold dcyN; rw [if_neg (by omega)]
theorem dcyN_all (f : Int → Nat) (hr : ∀ c, f c ≠ 0 → 1 ≤ c ∧ c ≤ 1023) : dcyN f 1024 = dcy f := by
  funext c
  unfold dcyN dcy
  by_cases h : f c = 0
  · rw [h]; split <;> rfl
  · have := hr c h
    rw [if_pos (by omega)]
theorem re_half (x : Nat) (h : x ≤ 1048576) : wrap64 ((x : Int) / 2) = ((x / 2 : Nat) : Int) ∧ IntKind.i64.wrap ((x : Int) / 2) = ((x / 2 : Nat) : Int) ∧ IntKind.i64.wrap ((x : Int).tdiv 2) = ((x / 2 : Nat) : Int) := by
  have e : wrap64 ((x : Int) / 2) = ((x / 2 : Nat) : Int) := by unfold wrap64; omega
  refine ⟨e, ?_, ?_⟩
  · rw [IntWalk.i64_in _ (by omega)]; omega
  · rw [Int.tdiv_eq_ediv_of_nonneg (by omega), IntWalk.i64_in _ (by omega)]; omega

set_option maxRecDepth 100000 in
theorem r15Decay (H : RowU 49 g (bookL f) W) (hr : ∀ c, f c ≠ 0 → 1 ≤ c ∧ c ≤ 1023) (hm : ∀ c, f c ≤ 1048576) :
    Calls Try.prog 16 #[.pointer (some ⟨g, 0, none⟩)] W (ReD g (dcy f) W) := by
  have H0 : Hid (RowU 49 g (bookL (dcyN f 0)) W ∧ KeptIn (· ≠ g) W W) := Lib.hid ⟨by rw [dcyN_zero]; exact H, KeptIn.refl _ _⟩
  have HA := Lib.hid (And.intro (dcyN_all f hr) hm)
  clear H hr hm
  go_enter Try.func16, Try.ntmps16
  go_wp2_with fail
  go_loopw [2] (fun i wr => ∃ (j : Nat) (V : World), V = wr ∧ j ≤ 1024 ∧ i = .int .i64 (j : Int) ∧ Hid (RowU 49 g (bookL (dcyN f j)) V ∧ KeptIn (· ≠ g) W V)) (fun i _ => 1024 - (RowKit.intOf i).toNat)
  case atStart => exact ⟨0, _, rfl, Nat.zero_le _, rfl, H0⟩
  case round =>
    obtain ⟨j, V, rfl, hj, rfl, HJ⟩ := hrel
    clear H0
    by_cases hlt : j < 1024
    · have z1 : (0 : Int) ≤ (j : Int) := by omega
      have z2 : (j : Int) < 1024 := by omega
      have ce := HJ.out.1.cell (bookL_at (dcyN f j) hlt)
      rw [dcyN_at] at ce
      have fr := HJ.out.1.fro j
      have hx := HA.out.2 (j : Int)
      have hs := HJ.out.1.set j (f (j : Int) / 2)
      rw [bookL_set _ hlt, dcyN_succ] at hs
      obtain ⟨x, hfx⟩ : ∃ x, f (j : Int) = x := ⟨_, rfl⟩
      rw [hfx] at ce hx hs
      obtain ⟨y1, y2, y3⟩ := re_half x hx
      obtain ⟨y, hy⟩ : ∃ y, x / 2 = y := ⟨_, rfl⟩
      rw [hy] at y1 y2 y3 hs
      have HN2 : Hid (∀ X : World, X.heap = (V.setCell ⟨g, j, none⟩ (.int .i64 (y : Int))).heap → KeptIn (· ≠ g) V X → RowU 49 g (bookL (dcyN f (j + 1))) X ∧ KeptIn (· ≠ g) W X) := Lib.hid fun X hX hk => ⟨by unfold RowU at hs ⊢; rw [hX]; exact hs, HJ.out.2.trans hk⟩
      clear hs hy hfx hx HJ
      go_wp2_with fail
      go_region
      go_wp2_with fail
      go_roundw
      case rel => exact ⟨j + 1, _, rfl, by omega, by go_num, Lib.hid (HN2.out _ rfl (((KeptIn.refl _ V).drew).setCell (by simp) _))⟩
      case measure => simp only [RowKit.intOf]; omega
    · obtain rfl : j = 1024 := by omega
      have hE : ReD g (dcy f) W (.returned (.tuple #[])) V := ⟨rfl, by rw [← HA.out.1]; exact HJ.out.1, HJ.out.2⟩
      have HE := Lib.hid hE
      clear HJ hlt hE
      go_wp2_with fail
      go_end0
      exact HE.out
end

end Go.Proofs.Ytdbohcdjamhdjaa
