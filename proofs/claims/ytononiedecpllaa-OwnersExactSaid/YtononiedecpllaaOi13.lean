/- Owners: slices.Insert at a row of owners, one more: at the end; with room; without. -/
import Derived.Test.YtononiedecpllaaOf13
import Derived.Shelf.Spec.SlicesInsert
import Derived.Lib.AppendZerosOnto
set_option linter.unusedVariables false
namespace Go.Proofs.Ytononiedecpllaa
open Go.RowKit

/-- What lies behind two copies onto a row: what stood ahead of a place, the new cells, what stood from that place on. -/
theorem ins_cells {α : Type} (L A M X R : List α) (a k : Nat) (hL : L = A ++ M ++ R) (hA : A.length = a) (hX : X.length = k) (hR : k ≤ R.length) :
    ∃ R', (((L.take (a + k) ++ M ++ L.drop (a + k + M.length)).take a ++ X ++ (L.take (a + k) ++ M ++ L.drop (a + k + M.length)).drop (a + X.length)) = A ++ X ++ M ++ R') ∧ (A ++ X ++ M ++ R').length = L.length := by
  have hl : L.length = a + M.length + R.length := by rw [hL, List.length_append, List.length_append, hA]
  have h1 : (L.take (a + k)).length = a + k := by rw [List.length_take]; omega
  have e1 : (L.take (a + k) ++ M ++ L.drop (a + k + M.length)).take a = A := by
    rw [List.append_assoc, List.take_append_of_le_length (by omega), List.take_take, Nat.min_eq_left (by omega), hL, List.append_assoc, List.take_append_of_le_length (by omega), List.take_of_length_le (by omega)]
  have e2 : (L.take (a + k) ++ M ++ L.drop (a + k + M.length)).drop (a + X.length) = M ++ L.drop (a + k + M.length) := by
    rw [hX, List.append_assoc, List.drop_append_of_le_length (by omega), List.drop_of_length_le (by omega), List.nil_append]
  refine ⟨L.drop (a + k + M.length), ?_, ?_⟩
  · rw [e1, e2]; simp only [List.append_assoc]
  · simp only [List.length_append, List.length_drop, hA, hX]; omega

/-- .. and onto a new row: the new cells first, then what stood from the place on. -/
theorem ins_cells2 {α : Type} (L A M X Z : List α) (a k : Nat) (hL : L = A ++ Z) (hA : A.length = a) (hX : X.length = k) (hZ : k + M.length ≤ Z.length) :
    ∃ R', (((L.take a ++ X ++ L.drop (a + X.length)).take (a + k) ++ M ++ (L.take a ++ X ++ L.drop (a + X.length)).drop (a + k + M.length)) = A ++ X ++ M ++ R') ∧ (A ++ X ++ M ++ R').length = L.length := by
  have hl : L.length = a + Z.length := by rw [hL, List.length_append, hA]
  have e0 : L.take a = A := by rw [hL, List.take_append_of_le_length (by omega), List.take_of_length_le (by omega)]
  have e1 : (L.take a ++ X ++ L.drop (a + X.length)).take (a + k) = A ++ X := by
    rw [e0, List.take_append_of_le_length (by simp only [List.length_append]; omega), List.take_of_length_le (by simp only [List.length_append]; omega)]
  refine ⟨(L.take a ++ X ++ L.drop (a + X.length)).drop (a + k + M.length), ?_, ?_⟩
  · rw [e1]
  · rw [e0]
    simp only [List.length_append, List.length_drop, hA, hX]
    omega

/-- What an insertion leaves: a row with one more; where it lies. -/
def InsS (w : World) (B : Nat) (v : Value) (l : List Ow) (e : Ending) (w' : World) : Prop :=
  ∃ g cap, e = .returned (.slice (some ⟨g, 0, none⟩) l.length cap) ∧ RowO w' B (.slice (some ⟨g, 0, none⟩) l.length cap) l ∧ KeptIn (fun k => k < w.heap.size ∧ v.ownBlock ≠ some k) w w' ∧ (v.ownBlock = some g ∨ w.heap.size ≤ g)

theorem newsO {w : World} {vb : Nat} {o : Ow} (h : BoxO vb o w) : ∀ j u, (cellsO [o])[j]? = some u → w.cell? ((⟨vb, 0, none⟩ : Addr).add j) = some u := by
  obtain ⟨c1, c2, c3⟩ := h.cells
  intro j u hu
  rw [Addr.add_lit, Nat.zero_add]
  match j, hu with
  | 0, hu => simp [cellsO] at hu; rw [← hu]; exact c1
  | 1, hu => simp [cellsO] at hu; rw [← hu]; exact c2
  | 2, hu => simp [cellsO] at hu; rw [← hu]; exact c3
  | j + 3, hu => simp [cellsO] at hu

set_option maxRecDepth 100000 in
/-- At the end. -/
theorem owIns_end (v : Value) (l : List Ow) (B : Nat) (o : Ow) (vb : Nat) (w : World) (h : RowO w B v l) (hl : l.length ≤ 2000) (hB : B ≤ w.heap.size) (hv : BoxO vb o w) :
    Calls Try.prog 36 #[v, .int .i64 (l.length : Nat), .slice (some ⟨vb, 0, none⟩) 1 1] w (InsS w B v (l ++ [o])) := by
  obtain ⟨i, hi, hz0, hz1, hz2⟩ := info_parts infoOw
  obtain ⟨a, cap, rfl, hc1, hc2⟩ := h.shape
  obtain ⟨g, cap', w', hr, hown, hgrow, hat, hlt⟩ := run_append_lies (P := Try.prog) w 59 59 B 31 i _ 3 24 Try.underlying59 hi hz0 hz1 hz2 rfl (by omega) _ _ _ h ⟨vb, 0, none⟩ 1 1 (cellsO [o]) rfl (newsO hv) (cellsO_one _) (by omega) (by unfold maxLen; omega) (by omega) hB _ rfl
  rw [← run_append_other 59 42 31 59 a l.length cap _ w Try.underlying42 31 Try.underlying59 i hi] at hr
  have hE : InsS w B (.slice a l.length cap) (l ++ [o]) (.returned (.slice (some ⟨g, 0, none⟩) (l.length + 1) cap')) w' := by
    refine ⟨g, cap', by rw [List.length_append]; rfl, ?_, ?_, ?_⟩
    · unfold RowO
      rw [cellsO_append, List.length_append]
      exact hown
    · exact ⟨hgrow.os, hgrow.tape, hgrow.output, hgrow.size, fun k hk => hgrow.block k hk.1 (fun e => hk.2 e.symm)⟩
    · rcases hat with h1 | h1
      · exact .inl h1
      · exact .inr (by omega)
  have HE := Lib.hid hE
  have HR := Lib.hid hr
  obtain ⟨n, hn⟩ : ∃ n, l.length = n := ⟨_, rfl⟩
  rw [hn] at HR HE hc1 hl ⊢
  have hn63 : (n : Int) ≤ 2000 := by omega
  have hcap : (cap : Int) ≤ 9223372036854775807 := by unfold maxLen at hc2; omega
  have hn0 : (0 : Int) ≤ (n : Int) := by omega
  have hnc : (n : Int) ≤ (cap : Int) := by omega
  clear h hr hown hgrow hat hlt hE hn hv hc2
  by_cases hcn : cap = n
  · subst hcn
    go_enter Try.func36, Try.ntmps36
    go_wp2_with (at_builtin; refine Lib.wpList_append_run _ rfl _ _ _ _ rfl _ _ rfl rfl _ _ HR.out ?_)
    go_ret
    exact HE.out
  · go_enter Try.func36, Try.ntmps36
    go_wp2_with (at_builtin; refine Lib.wpList_append_run _ rfl _ _ _ _ rfl _ _ rfl rfl _ _ HR.out ?_)
    all_goals
      go_ret
      exact HE.out

theorem overApart (vb g off la ca lb cb kA kB : Nat) (w : World) (hne : vb ≠ g) (tA tB : TypeId) (hsa : w.shape? vb = some (tA, kA)) (hsb : w.shape? g = some (tB, kB)) (hkB : kB ≠ 0) (hfa : w.frozen? ⟨vb, 0, none⟩ = false) (hfe : w.frozen? ⟨vb, kA, none⟩ = false) :
    (callFunc 43 #[.slice (some ⟨vb, 0, none⟩) la ca, .slice (some ⟨g, off, none⟩) lb cb]).run Try.prog w = .ok (.value (.bool false)) w := by
  have hz : ∀ w, (Go.sizeOf 31).run Try.prog w = .ok 3 w := fun w => by
    obtain ⟨i, hi, hz0, hz1, hz2⟩ := info_parts infoOw
    simp [Go.sizeOf, typeInfo, hi, hz1]
  rw [run_callFunc_extern (P := Try.prog) (f := 43) Try.func43 (by kernel_rfl) (by kernel_rfl) (by kernel_rfl) (e := Extern.SlicesOverlaps.overlaps #[42, 42] #[4]) (by kernel_rfl),
    Lib.run_overlaps_apart w 42 4 31 Try.underlying42 3 hz ⟨vb, 0, none⟩ ⟨g, off, none⟩ la ca lb cb hne tA tB kA kB hsa hsb hkB hfa hfe]
  rfl

end Go.Proofs.Ytononiedecpllaa
