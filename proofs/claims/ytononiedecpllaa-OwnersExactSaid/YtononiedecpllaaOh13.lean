/- Owners: the lowest free number; the chunks that have owners. -/
import Derived.Test.YtononiedecpllaaOa13
import Derived.Test.YtononiedecpllaaShelf
set_option linter.unusedVariables false
namespace Go.Proofs.Ytononiedecpllaa
open Go.RowKit Go.Maps Go.Sort

/-- r is the lowest number that is nobody's, 0 where there is none. -/
def FreeIs (f h : Int → List Ow) (r : Int) : Prop :=
  (1 ≤ r ∧ r ≤ 1023 ∧ (f r = [] ∧ h r = []) ∧ ∀ c, 1 ≤ c → c < r → ¬ (f c = [] ∧ h c = [])) ∨ (r = 0 ∧ ∀ c, 1 ≤ c → c ≤ 1023 → ¬ (f c = [] ∧ h c = []))
theorem FreeIs.uniq {f h : Int → List Ow} {r s : Int} (a : FreeIs f h r) (b : FreeIs f h s) : r = s := by
  rcases a with ⟨a1, a2, a3, a4⟩ | ⟨a1, a2⟩
  · rcases b with ⟨b1, b2, b3, b4⟩ | ⟨b1, b2⟩
    · rcases Int.lt_trichotomy r s with h | h | h
      · exact absurd a3 (b4 r a1 h)
      · exact h
      · exact absurd b3 (a4 s b1 h)
    · exact absurd a3 (b2 r a1 a2)
  · rcases b with ⟨b1, b2, b3, b4⟩ | ⟨b1, b2⟩
    · exact absurd b3 (a2 s b1 b2)
    · rw [a1, b1]
theorem freeIs_upto (f h : Int → List Ow) : ∀ n : Nat, n ≤ 1023 → (∃ r, FreeIs f h r) ∨ ∀ c : Int, 1 ≤ c → c ≤ n → ¬ (f c = [] ∧ h c = []) := by
  intro n
  induction n with
  | zero => intro _; exact .inr fun c h1 h2 => absurd h2 (by omega)
  | succ n ih =>
    intro hn
    rcases ih (by omega) with h1 | h1
    · exact .inl h1
    · by_cases hp : f ((n : Int) + 1) = [] ∧ h ((n : Int) + 1) = []
      · exact .inl ⟨(n : Int) + 1, .inl ⟨by omega, by omega, hp, fun c h2 h3 => h1 c h2 (by omega)⟩⟩
      · refine .inr fun c h2 h3 => ?_
        by_cases hc : c = (n : Int) + 1
        · rw [hc]; exact hp
        · exact h1 c h2 (by omega)
theorem freeIs_some (f h : Int → List Ow) : ∃ r, FreeIs f h r := by
  rcases freeIs_upto f h 1023 (Nat.le_refl _) with h1 | h1
  · exact h1
  · exact ⟨0, .inr ⟨rfl, fun c h2 h3 => h1 c h2 (by omega)⟩⟩
noncomputable def freeN (f h : Int → List Ow) : Int := Classical.choose (freeIs_some f h)
theorem freeN_is (f h : Int → List Ow) : FreeIs f h (freeN f h) := Classical.choose_spec (freeIs_some f h)

theorem fr_wf (j : Nat) (h : j ≤ 1024) : (Lit.int .i64 (j : Int)).wf = true := by
  simp [Lit.wf, IntKind.min, IntKind.max, IntKind.signed, IntKind.bits]
  omega

section
variable {B b bn bw : Nat} {N M : Int → Option Value} {f h : Int → List Ow} {D : Nat → Prop} {w : World}
set_option maxRecDepth 100000 in
theorem owFree (H : Bk B b bn bw N M f h D w) :
    Calls Try.prog 20 #[.pointer (some ⟨b, 0, none⟩)] w fun e w' => e = .returned (.int .i64 (freeN f h)) ∧ w = w' := by
  obtain ⟨c0, c1⟩ := H.cells
  have CH := Lib.hid fun (c : Nat) (hc : c ≤ 1024) => owHas H.mn (c : Int) (fr_wf c hc) B _ (H.row (c : Int)).1
  have CW := Lib.hid fun (c : Nat) (hc : c ≤ 1024) => owWas H (c : Int) (fr_wf c hc)
  obtain ⟨r, hr⟩ : ∃ r, freeN f h = r := ⟨_, rfl⟩
  have HR : Hid (∀ s, FreeIs f h s → r = s) := Lib.hid fun s hs => by rw [← hr]; exact (freeN_is f h).uniq hs
  rw [hr]
  clear hr H c1
  go_enter Try.func20, Try.ntmps20
  go_wp2_with fail
  go_loopw [3] (fun c wr => ∃ (j : Nat) (V : World), V = wr ∧ wr = w ∧ 1 ≤ j ∧ j ≤ 1024 ∧ c = .int .i64 j ∧ Hid (∀ d : Int, 1 ≤ d → d < j → ¬ (f d = [] ∧ h d = []))) (fun c _ => 1024 - (RowKit.intOf c).toNat)
  case atStart => exact ⟨1, _, rfl, by trivial, by omega, by omega, rfl, Lib.hid fun d h1 h2 => absurd h2 (by omega)⟩
  case round =>
    obtain ⟨j, V, rfl, rfl, hj1, hj, rfl, HJ⟩ := hrel
    by_cases hlt : j ≤ 1023
    · have d1 : (j : Int) ≤ 1023 := by omega
      have C1 := Lib.hid (CH.out j hj)
      have C2 := Lib.hid (CW.out j hj)
      obtain ⟨n, hn⟩ : ∃ n, (f (j : Int)).length = n := ⟨_, rfl⟩
      obtain ⟨m, hm⟩ : ∃ m, (h (j : Int)).length = m := ⟨_, rfl⟩
      rw [hn] at C1
      rw [hm] at C2
      by_cases hn0 : n = 0
      · subst hn0
        by_cases hm0 : m = 0
        · subst hm0
          have hrj := HR.out (j : Int) (.inl ⟨by omega, by omega, ⟨List.length_eq_zero_iff.1 hn, List.length_eq_zero_iff.1 hm⟩, HJ.out⟩)
          have HRJ := Lib.hid hrj
          clear HJ HR CH CW hn hm hrj
          go_wp2_with (first | (go_at_call 28; refine C1.out.mono ?_; rintro e _ ⟨rfl, rfl⟩) | (go_at_call 19; refine C2.out.mono ?_; rintro e _ ⟨rfl, rfl⟩))
          go_ret
          exact ⟨by rw [HRJ.out]; rfl, rfl⟩
        · have HJ2 : Hid (∀ d : Int, 1 ≤ d → d < (j + 1 : Nat) → ¬ (f d = [] ∧ h d = [])) := Lib.hid fun d h1 h2 h3 => by
            by_cases hd : d = (j : Int)
            · rw [hd] at h3
              rw [h3.2] at hm
              exact hm0 hm.symm
            · exact HJ.out d h1 (by omega) h3
          have m1 : decide (0 < m) = true := decide_eq_true (by omega)
          rw [m1] at C2
          clear HJ hn hm m1
          go_wp2_with (first | (go_at_call 28; refine C1.out.mono ?_; rintro e _ ⟨rfl, rfl⟩) | (go_at_call 19; refine C2.out.mono ?_; rintro e _ ⟨rfl, rfl⟩))
          go_roundw
          case rel => exact ⟨j + 1, _, rfl, by trivial, by omega, by omega, by go_num, HJ2⟩
          case measure => simp [RowKit.intOf]; omega
      · have HJ2 : Hid (∀ d : Int, 1 ≤ d → d < (j + 1 : Nat) → ¬ (f d = [] ∧ h d = [])) := Lib.hid fun d h1 h2 h3 => by
          by_cases hd : d = (j : Int)
          · rw [hd] at h3
            rw [h3.1] at hn
            exact hn0 hn.symm
          · exact HJ.out d h1 (by omega) h3
        have m1 : decide (0 < n) = true := decide_eq_true (by omega)
        rw [m1] at C1
        clear HJ hn hm m1 C2
        go_wp2_with (first | (go_at_call 28; refine C1.out.mono ?_; rintro e _ ⟨rfl, rfl⟩))
        go_roundw
        case rel => exact ⟨j + 1, _, rfl, by trivial, by omega, by omega, by go_num, HJ2⟩
        case measure => simp [RowKit.intOf]; omega
    · obtain rfl : j = 1024 := by omega
      have hrj := HR.out 0 (.inr ⟨rfl, fun c h1 h2 => HJ.out c h1 (by omega)⟩)
      have HRJ := Lib.hid hrj
      clear HJ HR CH CW hrj
      go_wp2_with fail
      go_ret
      exact ⟨by rw [HRJ.out]; rfl, rfl⟩
end

theorem sortsI13 (m : Nat) : AnyZI.SortsIn Try.prog Try.sortedI_ren Fence.wide m :=
  ⟨fun blk off cap ss W hH hblk hsz => callsIn_wide.2 (AnyM.slices_Sort_int Try.sortI blk off cap ss W hH hblk hsz),
   fun p cap W => callsIn_wide.2 (AnyM.slices_Sort_int_none Try.sortI p cap W)⟩

/-- slices.Sorted(maps.Keys(t)). -/
theorem cKeys13 (mb : Option Nat) (W : World) : Calls Try.prog 33 #[.map mb] W fun e w' => e = .returned (.func (.func 40) #[] #[.pointer (some ⟨W.heap.size, 0, none⟩)]) ∧ w' = W.alloc (.cells #[.map mb] 55) :=
  callsIn_wide.1 (AnyZI.keys_in Try.keysO Fence.wide 5 trivial rfl mb W)
theorem cSorted13 {w : World} {b N n : Nat} {M : Int → Option Value} (h : MpAt (fun v : Value => v) b N M w) (hd : ∀ x l, M x = some l → 0 ≤ x ∧ x < n) (hn : n ≤ 1024) :
    Calls Try.prog 32 #[.func (.func 40) #[] #[.pointer (some ⟨w.heap.size, 0, none⟩)]] (w.alloc (.cells #[.map (some b)] 55)) fun e w' => ∃ v, e = .returned v ∧
      w'.ownsRow w.heap.size 3 1 v (upTo n fun q => (M q).isSome).length ((upTo n fun q => (M q).isSome).map encZ) ∧ KeptIn (· < w.heap.size) w w' := by
  obtain ⟨D, hown, hsay⟩ := h
  have hbl := hown.lt
  have hsz : Maps.size D ≤ 1024 := Nat.le_trans (mp_size hown hsay hd) hn
  have hseq : SeqGives Fence.wide 2 Try.prog 40 #[.pointer (some ⟨w.heap.size, 0, none⟩)] encZ (fun ss => ss.Perm (intKeys D)) (Maps.size D) (w.alloc (.cells #[.map (some b)] 55)) :=
    AnyZI.keys_gives (ρ := Try.keysO_ren) { Try.keysO with } Fence.wide _ trivial rfl (by omega) w.heap.size b N D _ (by simp) (by simp) (mpBlock hown (Lib.alloc_old _ _ _ hbl))
  have cS := AnyZI.sorted_in Try.sortedI Fence.wide 5 trivial trivial trivial trivial rfl (by omega) (sortsI13 _) (enters_of Try.func39 (by kernel_rfl) rfl) 40 #[.pointer (some ⟨w.heap.size, 0, none⟩)] trivial (enters_of Try.func40 (by kernel_rfl) rfl) _ _ (by unfold maxLen; omega) (by omega) _ hseq
  change CallsIn _ _ Try.prog 32 _ _ _ at cS
  refine (callsIn_wide.1 cS).mono ?_
  rintro e w' ⟨v, ss, rfl, hS, hrow, hnil, hb⟩
  have he := keys_upTo hown hsay hd ss hS
  have hl : ss.length = (upTo n fun q => (M q).isSome).length := by rw [← he, List.length_mergeSort]
  rw [he, hl] at hrow
  refine ⟨v, rfl, ownsRow_base_a hrow (by simp), ?_⟩
  exact KeptIn.of_below (((Below.refl _ w).alloc (Nat.le_refl _) _).trans (hb.mono (by simp))) (fun _ h => h)

/-- The chunks that have owners, rising. -/
def keysO (f : Int → List Ow) : List Int := upTo 1024 fun c => decide (f c ≠ [])
def ChunkS (w : World) (f : Int → List Ow) (e : Ending) (w' : World) : Prop :=
  ∃ v, e = .returned v ∧ w'.ownsRow w.heap.size 3 1 v (keysO f).length ((keysO f).map encZ) ∧ KeptIn (· < w.heap.size) w w'

section
variable {B b bn bw : Nat} {N M : Int → Option Value} {f h : Int → List Ow} {D : Nat → Prop} {w : World}
theorem Bk.tells (H : Bk B b bn bw N M f h D w) (c : Int) : (N c).isSome = decide (f c ≠ []) := by
  cases hN : N c with
  | none => rw [H.rz c hN]; rfl
  | some v => rw [decide_eq_true (H.rn c v hN).2]; rfl
set_option maxRecDepth 100000 in
theorem owChunks (H : Bk B b bn bw N M f h D w) : Calls Try.prog 22 #[.pointer (some ⟨b, 0, none⟩)] w (ChunkS w f) := by
  obtain ⟨c0, c1⟩ := H.cells
  have e : (fun q => (N q).isSome) = fun c => decide (f c ≠ []) := funext H.tells
  have C := Lib.hid (cSorted13 (n := 1024) H.mn (fun x l hx => by have := H.ran x l hx; omega) (Nat.le_refl _))
  rw [e] at C
  have K := Lib.hid (cKeys13 (some bn) w)
  clear H e c1
  go_enter Try.func22, Try.ntmps22
  go_wp2_with (go_at_call 33; refine K.out.mono ?_; rintro e _ ⟨rfl, rfl⟩)
  refine C.out.mono ?_
  rintro e V ⟨v, rfl, hr, hk⟩
  have HX := Lib.hid (And.intro hr hk)
  clear hr hk C K
  go_wp2_with fail
  go_ret
  exact ⟨_, rfl, HX.out.1, HX.out.2⟩
end

end Go.Proofs.Ytononiedecpllaa
