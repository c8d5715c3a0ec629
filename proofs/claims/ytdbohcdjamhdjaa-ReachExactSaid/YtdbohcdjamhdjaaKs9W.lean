import Derived.Test.YtdbohcdjamhdjaaV10
import Derived.Test.YtdbohcdjamhdjaaShelf
import Derived.WalkKit
import Derived.OwnWalkIn
import Derived.TacticsInMore
import Derived.CallsIn
/- Reach: the keys of a map by integers, sorted. -/
set_option linter.unusedVariables false
namespace Go.Proofs.Ytdbohcdjamhdjaa
open Go.RowKit Go.Maps Go.Sort

theorem sortsI9 (m : Nat) : AnyZI.SortsIn Try.prog Try.sortedI_ren Fence.wide m :=
  ⟨fun blk off cap ss W hH hblk hsz => callsIn_wide.2 (AnyM.slices_Sort_int Try.sortI blk off cap ss W hH hblk hsz),
   fun p cap W => callsIn_wide.2 (AnyM.slices_Sort_int_none Try.sortI p cap W)⟩

/-- slices.Sorted(maps.Keys(m)). -/
theorem cKeys9 (mb : Option Nat) (W : World) : Calls Try.prog 26 #[.map mb] W fun e w' => e = .returned (.func (.func 34) #[] #[.pointer (some ⟨W.heap.size, 0, none⟩)]) ∧ w' = W.alloc (.cells #[.map mb] 68) :=
  callsIn_wide.1 (AnyZI.keys_in Try.keysI Fence.wide 5 trivial rfl mb W)
theorem cSorted9 {α : Type} {V : α → Value} {w : World} {b N n : Nat} {M : Int → Option α} (h : MpAt V b N M w) (hd : ∀ x l, M x = some l → 0 ≤ x ∧ x < n) (hn : n ≤ 1000) :
    Calls Try.prog 25 #[.func (.func 34) #[] #[.pointer (some ⟨w.heap.size, 0, none⟩)]] (w.alloc (.cells #[.map (some b)] 68)) fun e w' => ∃ v, e = .returned v ∧
      w'.ownsRow w.heap.size 3 1 v (upTo n fun q => (M q).isSome).length ((upTo n fun q => (M q).isSome).map encZ) ∧ KeptIn (· < w.heap.size) w w' := by
  obtain ⟨D, hown, hsay⟩ := h
  have hbl := hown.lt
  have hsz : Maps.size D ≤ 1000 := by
    have he := keys_upTo hown hsay hd (intKeys D) (List.Perm.refl _)
    have hl : (intKeys D).length = (upTo n fun q => (M q).isSome).length := by rw [← he, List.length_mergeSort]
    have hp := upTo_length n fun q => (M q).isSome
    obtain ⟨es, rfl, _⟩ := hown.canon mpLaw
    have : (intKeys (DataW.map es : DataW α)).length = Maps.size (DataW.map es : DataW α) := by simp [intKeys, Maps.size]
    omega
  have hseq : SeqGives Fence.wide 2 Try.prog 34 #[.pointer (some ⟨w.heap.size, 0, none⟩)] encZ (fun ss => ss.Perm (intKeys D)) (Maps.size D) (w.alloc (.cells #[.map (some b)] 68)) :=
    AnyZI.keys_gives (ρ := Try.keysI_ren) { Try.keysI with } Fence.wide _ trivial rfl (by omega) w.heap.size b N D _ (by simp) (by simp) (mpBlock hown (Lib.alloc_old _ _ _ hbl))
  have cS := AnyZI.sorted_in Try.sortedI Fence.wide 5 trivial trivial trivial trivial rfl (by omega) (sortsI9 _) (enters_of Try.func33 (by kernel_rfl) rfl) 34 #[.pointer (some ⟨w.heap.size, 0, none⟩)] trivial (enters_of Try.func34 (by kernel_rfl) rfl) _ _ (by unfold maxLen; omega) (by omega) _ hseq
  change CallsIn _ _ Try.prog 25 _ _ _ at cS
  refine (callsIn_wide.1 cS).mono ?_
  rintro e w' ⟨v, ss, rfl, hS, hrow, hnil, hb⟩
  have he := keys_upTo hown hsay hd ss hS
  have hl : ss.length = (upTo n fun q => (M q).isSome).length := by rw [← he, List.length_mergeSort]
  rw [he, hl] at hrow
  refine ⟨v, rfl, ownsRow_base_a hrow (by simp), ?_⟩
  exact KeptIn.of_below (((Below.refl _ w).alloc (Nat.le_refl _) _).trans (hb.mono (by simp))) (fun _ h => h)

theorem keysOk : KeysOk := by
  refine ⟨cKeys9, fun w b N n C h hd hn => ?_⟩
  have e : (fun q => (cnM C q).isSome) = fun q => decide (0 < C q) := by
    funext q
    unfold cnM
    by_cases h : C q = 0
    · rw [if_pos h, h]; rfl
    · rw [if_neg h, decide_eq_true (by omega)]; rfl
  have := cSorted9 (n := n) h (fun x l hx => hd x (by
    unfold cnM at hx
    split at hx
    · cases hx
    · omega)) hn
  rw [e] at this
  exact this

end Go.Proofs.Ytdbohcdjamhdjaa
