/- Heats: Hot (over what the kit's shelf lays of slices.Sorted and maps.Keys). -/
import Derived.Test.YtdbohcdjamhdjaaHv15
import Derived.Test.YtdbohcdjamhdjaaShelf
set_option linter.unusedVariables false
namespace Go.Proofs.Ytdbohcdjamhdjaa
open Go.RowKit Go.Maps Go.Sort

theorem sortsI15 (m : Nat) : AnyZI.SortsIn Try.prog Try.sortedI_ren Fence.wide m :=
  ⟨fun blk off cap ss W hH hblk hsz => callsIn_wide.2 (AnyM.slices_Sort_int Try.sortI blk off cap ss W hH hblk hsz),
   fun p cap W => callsIn_wide.2 (AnyM.slices_Sort_int_none Try.sortI p cap W)⟩

/-- slices.Sorted(maps.Keys(m)). -/
theorem cKeys15 (mb : Option Nat) (W : World) : Calls Try.prog 26 #[.map mb] W fun e w' => e = .returned (.func (.func 34) #[] #[.pointer (some ⟨W.heap.size, 0, none⟩)]) ∧ w' = W.alloc (.cells #[.map mb] 68) :=
  callsIn_wide.1 (AnyZI.keys_in Try.keysI Fence.wide 5 trivial rfl mb W)
theorem cSorted15 {w : World} {b N n : Nat} {M : Int → Option Nat} (h : MpAt htV b N M w) (hd : ∀ x l, M x = some l → 0 ≤ x ∧ x < n) (hn : n ≤ 1024) :
    Calls Try.prog 25 #[.func (.func 34) #[] #[.pointer (some ⟨w.heap.size, 0, none⟩)]] (w.alloc (.cells #[.map (some b)] 68)) fun e w' => ∃ v, e = .returned v ∧
      w'.ownsRow w.heap.size 3 1 v (upTo n fun q => (M q).isSome).length ((upTo n fun q => (M q).isSome).map encZ) ∧ KeptIn (· < w.heap.size) w w' := by
  obtain ⟨D, hown, hsay⟩ := h
  have hbl := hown.lt
  have hsz : Maps.size D ≤ 1024 := Nat.le_trans (mp_size hown hsay hd) hn
  have hseq : SeqGives Fence.wide 2 Try.prog 34 #[.pointer (some ⟨w.heap.size, 0, none⟩)] encZ (fun ss => ss.Perm (intKeys D)) (Maps.size D) (w.alloc (.cells #[.map (some b)] 68)) :=
    AnyZI.keys_gives (ρ := Try.keysI_ren) { Try.keysI with } Fence.wide _ trivial rfl (by omega) w.heap.size b N D _ (by simp) (by simp) (mpBlock hown (Lib.alloc_old _ _ _ hbl))
  have cS := AnyZI.sorted_in Try.sortedI Fence.wide 5 trivial trivial trivial trivial rfl (by omega) (sortsI15 _) (enters_of Try.func33 (by kernel_rfl) rfl) 34 #[.pointer (some ⟨w.heap.size, 0, none⟩)] trivial (enters_of Try.func34 (by kernel_rfl) rfl) _ _ (by unfold maxLen; omega) (by omega) _ hseq
  change CallsIn _ _ Try.prog 25 _ _ _ at cS
  refine (callsIn_wide.1 cS).mono ?_
  rintro e w' ⟨v, ss, rfl, hS, hrow, hnil, hb⟩
  have he := keys_upTo hown hsay hd ss hS
  have hl : ss.length = (upTo n fun q => (M q).isSome).length := by rw [← he, List.length_mergeSort]
  rw [he, hl] at hrow
  refine ⟨v, rfl, ownsRow_base_a hrow (by simp), ?_⟩
  exact KeptIn.of_below (((Below.refl _ w).alloc (Nat.le_refl _) _).trans (hb.mono (by simp))) (fun _ h => h)

theorem rowA_of {W : World} {B : Nat} {v : Value} {l : List Int} (h : W.ownsRow B 3 1 v l.length (l.map encZ)) : ∃ a cap, v = .slice a l.length cap ∧ RowA W B a l := by
  rcases h.2 with ⟨rfl, h0⟩ | ⟨g, cap, cur, rfl, hg, hc, h1, h2, h3, h4⟩
  · have : l = [] := List.length_eq_zero_iff.1 h0
    subst this
    exact ⟨none, 0, rfl, .inl rfl⟩
  · refine ⟨_, cap, rfl, .inr ⟨g, cur, rfl, hg, hc, fun i c hi => ?_⟩⟩
    have hu : (l.map encZ)[i]? = some (.int .i64 c) := by rw [List.getElem?_map, hi]; rfl
    rw [← h4, List.getElem?_take] at hu
    split at hu
    · simpa using hu
    · cases hu

set_option maxRecDepth 100000 in
theorem hotOk : HotOk := by
  intro b m f w H
  have c0 := H.cell
  have e : (fun q => (htM f q).isSome) = fun c => decide (f c ≠ 0) := by
    funext q
    unfold htM
    by_cases h : f q = 0
    · rw [if_pos h, decide_eq_false (by simpa using h)]; rfl
    · rw [if_neg h, decide_eq_true h]; rfl
  have C := Lib.hid (cSorted15 (n := 1024) H.mp (htM_ran H.ran) (Nat.le_refl _))
  rw [e] at C
  change Hid (Calls _ _ _ _ fun e w' => ∃ v, e = .returned v ∧ w'.ownsRow w.heap.size 3 1 v (hots f).length ((hots f).map encZ) ∧ KeptIn (· < w.heap.size) w w') at C
  unfold HotS
  generalize hots f = l at *
  have K := Lib.hid (cKeys15 (some m) w)
  clear H e
  go_enter Try.func20, Try.ntmps20
  go_wp2_with (go_at_call 26; refine K.out.mono ?_; rintro e _ ⟨rfl, rfl⟩)
  refine C.out.mono ?_
  rintro e V ⟨v, rfl, hr, hk⟩
  obtain ⟨a, cap, rfl, hra⟩ := rowA_of hr
  have HX := Lib.hid (And.intro hra hk)
  clear hr hk C K hra
  go_wp2_with fail
  go_ret
  exact ⟨_, _, rfl, HX.out.1, HX.out.2⟩

theorem htDecay' {b m : Nat} {f : Int → Nat} {w : World} (H : HBk b m f w) : Calls Try.prog 15 #[.pointer (some ⟨b, 0, none⟩)] w (HtD b m (dcy f) w) := htDecay hotOk H

end Go.Proofs.Ytdbohcdjamhdjaa
