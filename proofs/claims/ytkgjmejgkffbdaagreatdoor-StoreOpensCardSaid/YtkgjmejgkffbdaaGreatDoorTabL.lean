import Derived.Test.YtkgjmejgkffbdaaGreatDoorRows
import Derived.Test.YtkgjmejgkffbdaaGreatDoorM7
import Derived.MakeChecks
/- The table that a row lists, wherever in its list it stands. -/
set_option linter.unusedVariables false
namespace Go.Proofs.YtkgjmejgkffbdaaGreatDoor
open Go.RowKit

theorem four_named : Tryz.prog.globalNamed "tierce/castle.fourSteps" = some 0 := by kernel_rfl
theorem four_type : (Tryz.prog.globals[0]?).map (·.type) = some 172 := by kernel_rfl

theorem tab_head {W : World} {rest : List (String × DataW Unit)} (h : laidMet Tryz.prog (("tierce/castle.fourSteps", Rows.laid_tierce_castle_fourSteps) :: rest) W) : Tab W := by
  have hT : Lib.TabIs Tryz.prog W "tierce/castle.fourSteps" .u32 (tab4.map Int.ofNat) :=
    Lib.tabIs_of_head four_named four_type Tryz.underlying172 Tryz.underlying150 (by kernel_rfl) (by kernel_rfl) h
  intro i hi
  have h1 := hT.cell four_named i hi
  rw [h1]
  have h2 : ∀ i, i < 16 → (tab4.map Int.ofNat).getD i 0 = ((at4 i : Nat) : Int) := by decide +kernel
  rw [h2 i hi]

theorem laid_tail {P : Program} {W : World} {x : String × DataW Unit} {rest : List (String × DataW Unit)} (h : laidMet P (x :: rest) W) : laidMet P rest W := by
  obtain ⟨ps, ⟨g, t, cs, fuel, p, q, h1, h2, h3, h4, h5, rfl⟩, hn, hc⟩ := h
  exact ⟨q, h5, (List.nodup_append.1 hn).2.1, fun b off hm => hc b off (List.mem_append_right _ hm)⟩

theorem tab_mem {W : World} : ∀ {L : List (String × DataW Unit)}, laidMet Tryz.prog L W → ("tierce/castle.fourSteps", Rows.laid_tierce_castle_fourSteps) ∈ L → Tab W
  | [], _, hm => by cases hm
  | x :: r, h, hm => by
    rcases List.mem_cons.1 hm with e | hm
    · subst e
      exact tab_head h
    · exact tab_mem (laid_tail h) hm

theorem tab_of {W : World} {L : List (String × DataW Unit)} (hp : (L.all fun x => x.2.handleName?.isNone) = true) (hm : ("tierce/castle.fourSteps", Rows.laid_tierce_castle_fourSteps) ∈ L) (h : laidMetH Tryz.prog L W) : Tab W := by
  rw [MakeChecks.laidMetH_plain _ _ _ hp] at h
  exact tab_mem h hm

end Go.Proofs.YtkgjmejgkffbdaaGreatDoor
