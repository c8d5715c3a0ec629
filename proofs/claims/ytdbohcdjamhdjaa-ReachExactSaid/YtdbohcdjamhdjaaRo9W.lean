import Derived.Test.YtdbohcdjamhdjaaRn9W
/- Pages of sound trees, whatever nodes: each is of a node that can be; the bools that Refs makes. -/
set_option linter.unusedVariables false
namespace Go.Proofs.Ytdbohcdjamhdjaa
open Go.RowKit

/-- The page of a node that can be. -/
def GdP (NA : List NdA) (x : Int) : Prop := ∃ (i : Nat) (h : i < NA.length), x = ((i + 1 : Nat) : Int) ∧ gdA NA[i]
theorem kidsTo_all {f : Nat → Nat → Int → List Int → Option (List Int)} {ps : Pairs} {hi : Nat} {Q : Int → Prop} (hf : ∀ lo' hi' q m m', f lo' hi' q m = some m' → (∀ x ∈ m, Q x) → ∀ x ∈ m', Q x) {j : Nat} : ∀ {ms ms' : List Int}, kidsTo f ps hi j ms = some ms' → (∀ x ∈ ms, Q x) → ∀ x ∈ ms', Q x := by
  induction j with
  | zero =>
    intro ms ms' h ho
    cases h
    exact ho
  | succ j ih =>
    intro ms ms' h ho
    rw [kidsTo] at h
    cases hk : kidsTo f ps hi j ms with
    | none => rw [hk] at h; cases h
    | some m =>
      rw [hk] at h
      exact hf _ _ _ _ _ h (ih hk ho)
theorem svG_all {NA : List NdA} : ∀ {n : Nat} {root : Bool} {lv : Int} {lo hi : Nat} {p : Int} {ms ms' : List Int}, svG NA n root lv lo hi p ms = some ms' → (∀ x ∈ ms, GdP NA x) → ∀ x ∈ ms', GdP NA x := by
  intro n
  induction n with
  | zero => intro root lv lo hi p ms ms' h; cases h
  | succ n ih =>
    intro root lv lo hi p ms ms' h ho
    rw [svG] at h
    split at h
    · cases h
    · rename_i hp
      cases hn : nodeI NA p with
      | none => rw [hn] at h; cases h
      | some nd =>
        rw [hn] at h
        simp only at h
        obtain ⟨i, hi', e, e2⟩ := nodeI_at hn
        split at h
        · rename_i hF
          have ho2 : ∀ x ∈ ms ++ [p], GdP NA x := fun x hx => by
            rcases List.mem_append.1 hx with hx | hx
            · exact ho x hx
            · rw [List.mem_singleton.1 hx]
              exact ⟨i, hi', e, by rw [e2]; exact FitA.good hF⟩
          split at h
          · cases h
            exact ho2
          · exact kidsTo_all (fun lo' hi' q m m' h1 h2 => ih h1 h2) h ho2
        · cases h
theorem tsG_all {NA : List NdA} {r : Int} {g : List Int} (h : tsG NA r = some g) : ∀ x ∈ g, GdP NA x := by
  unfold tsG at h
  split at h
  · cases h
    intro x hx
    cases hx
  · exact svG_all h fun x hx => by cases hx

theorem infoBool9 : (Try.prog.info? 4).map (fun i => (i.zero, i.size, i.bytes)) = some (some (.bool false), 1, 1) := by kernel_rfl
theorem made9 (n : Nat) : (madeCells #[.bool false] (n * 1)).toList = List.replicate n (.bool false) := by
  rw [List.eq_replicate_iff]
  refine ⟨by simp [madeCells], fun b hb => ?_⟩
  unfold madeCells at hb
  rw [Array.toList_map, List.mem_map] at hb
  obtain ⟨i, _, rfl⟩ := hb
  simp [Nat.mod_one]
theorem blS_false (n : Nat) : blS n (fun _ => false) = List.replicate n (.bool false) := by
  rw [List.eq_replicate_iff]
  refine ⟨by simp [blS], fun b hb => ?_⟩
  simp only [blS, List.mem_map] at hb
  obtain ⟨_, _, rfl⟩ := hb
  rfl
/-- What make leaves. -/
theorem mkSeen9 (n : Nat) (hn : n ≤ 1000) (V : World) : (Instr.makeSlice 74 (.int .i64 (n : Int)) (.int .i64 (n : Int))).run Try.prog V = .ok (.slice (some ⟨V.heap.size, 0, none⟩) n n) (V.alloc (.cells (blS n fun _ => false).toArray 4)) := by
  obtain ⟨i0, hi, hz0, hz1, hz2⟩ := info_parts infoBool9
  have := run_make (P := Try.prog) V 74 4 i0 _ Try.underlying74 hi hz0 .i64 .i64 (n : Int) (n : Int) (by omega) (Int.le_refl _) (by rw [hz2]; omega) (by omega)
  rw [hz1, show ((n : Int)).toNat = n by omega] at this
  rw [this, blS_false, ← made9]
  simp
  rfl

end Go.Proofs.Ytdbohcdjamhdjaa
