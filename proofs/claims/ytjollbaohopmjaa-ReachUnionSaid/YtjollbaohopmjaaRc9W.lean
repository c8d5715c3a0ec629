import Derived.Test.YtjollbaohopmjaaSe9W
import Derived.Test.YtjollbaohopmjaaRc8W
/- Package tree's Reach, Check over a memo and a sound tree. -/
set_option linter.unusedVariables false
namespace Go.Proofs.Ytjollbaohopmjaa
open Go.RowKit

/-- The pages of a tree, and no error; their nodes are kept. -/
def RchM (w : World) (x c : Nat) (N : List Nd) (M : Int → Option (Option Lf9)) (ks : List Int) (e : Ending) (w' : World) : Prop := ∃ v, e = .returned (.tuple #[v, .int .i64 0]) ∧ MmS w' x c N M ks ∧ KeptIn (fun j => j < w.heap.size ∧ j ≠ x) w w'

theorem MmS.zero {w : World} {x c : Nat} {N : List Nd} {M : Int → Option (Option Lf9)} (h : IsMm w x c N M) : MmS w x c N M [] := ⟨c, M, h, Nat.le_refl _, Mmo.refl M⟩

theorem so_end9 {w W V V2 : World} {S B0 x c : Nat} {N : List Nd} {M : Int → Option (Option Lf9)} {v : Value} {ks : List Int} (hkW : KeptIn (· < w.heap.size) w W) (hk : KeptIn (· < W.heap.size) W V) (hS : w.heap.size = S) (hB : S < B0) (hm : MmS V2 x c N M ks) (h2 : KeptIn (SdZ V S B0 x) V V2) : RchM w x c N M ks (.returned (.tuple #[v, .int .i64 0])) V2 := by
  refine ⟨v, rfl, hm, ((hkW.go hk).mono fun j h => h.1).trans (h2.mono fun k hk2 => ?_)⟩
  have hz : w.heap.size ≤ V.heap.size := (hkW.go hk).size
  exact ⟨⟨by have := hk2.1; omega, by have := hk2.1; omega, .inl (by have := hk2.1; omega)⟩, hk2.2⟩

set_option maxRecDepth 100000 in
set_option maxHeartbeats 4000000 in
theorem trReachM {N : List Nd} (hN : N.length ≤ 511) (hfit : ∀ (i : Nat) (h : i < N.length), Fits N[i].2) {w : World} {s room x c : Nat} {D : Nat → Prop} {M : Int → Option (Option Lf9)} (h : IsSh w s room N D) (hD : ∀ k, D k → k ≠ x) (hm : IsMm w x c N M) (hc : c ≤ 90000) {root l : Nat} {qs : Pairs} {g : List Nat} (ht : TreeG N root l qs g) (hnd : g.Nodup) :
    Calls Try.prog 45 #[mmI s x, .int .i64 (root : Int)] w (RchM w x c N M (ofP g)) := by
  have hlen : g.length ≤ 511 := Nat.le_trans (nodup_le N.length g hnd ht.pages) hN
  rcases ht with ⟨rfl, rfl, rfl, _⟩ | ⟨ps, g', hS, hl7, h15, rfl⟩
  · have HE : Hid (RchM w x c N M (ofP []) (.returned (.tuple #[.slice none 0 0, .int .i64 0])) w) := Lib.hid ⟨_, rfl, MmS.zero hm, KeptIn.refl _ _⟩
    unfold mmI mmV pgV
    clear h hnd hlen hm hD hfit
    go_enter Try.func45, Try.ntmps45
    go_wp2_with fail
    go_ret2
    exact HE.out
  · have hpg := nodeOf_le hS.node
    have p0 : ((root : Int) == 0) = false := by rw [beq_eq_false_iff_ne]; omega
    have p1 : ¬ ((root : Int) = 0) := by omega
    obtain ⟨W, hW⟩ : ∃ W, w.alloc (.cells #[mmI s x, .slice none 0 0, .int .i64 0] 126) = W := ⟨_, rfl⟩
    have hkW : KeptIn (· < w.heap.size) w W := by rw [← hW]; exact (KeptIn.refl _ w).alloc (fun _ h => h) _
    have hbx : W.heap[w.heap.size]? = some (.cells #[mmI s x, .slice none 0 0, .int .i64 0] 126 (0, 0)) := by rw [← hW]; exact heap_alloc_new w _
    have hWs : W.heap.size = w.heap.size + 1 := by rw [← hW]; simp
    obtain ⟨S, hSe⟩ : ∃ S, w.heap.size = S := ⟨_, rfl⟩
    obtain ⟨B0, hB0⟩ : ∃ B0, W.heap.size = B0 := ⟨_, rfl⟩
    have hSB : S < B0 := by omega
    have HM : Hid (∀ V, KeptIn (· < W.heap.size) W V → Calls Try.prog 59 #[.pointer (some ⟨S, 0, none⟩), leadV root true 0 0 18446744073709551615] V (SoQ V S s B0 x c N M [] (ofP (root :: g')))) := Lib.hid fun V hk => by
      have hsv0 : SvU W S (mmI s x) B0 (.slice none 0 0) [] := ⟨by rw [← hSe]; exact hbx, ⟨rfl, .inl ⟨rfl, rfl⟩⟩, hSB, Nat.le_of_eq hB0.symm⟩
      exact trSoundM hN hfit s room x ((h.old hkW).old hk) (fun k hk => ⟨by rw [← hSe]; exact h.lt k hk, hD k hk⟩) (hsv0.old hk) ((hm.old hkW).old hk) hS hl7 h15 (by decide) (by simpa using ofP_nodup hnd) (by simp at hlen ⊢; omega) (by simp at hlen ⊢; omega)
    have HE : Hid (∀ V V2 v, KeptIn (· < W.heap.size) W V → MmS V2 x c N M (ofP (root :: g')) → KeptIn (SdZ V S B0 x) V V2 → RchM w x c N M (ofP (root :: g')) (.returned (.tuple #[v, .int .i64 0])) V2) := Lib.hid fun V V2 v h1 h2 h3 => so_end9 hkW h1 hSe hSB h2 h3
    have HT := Lib.hid fun V => trToRoot root V
    have HW := Lib.hid hW
    have HSE := Lib.hid hSe
    obtain ⟨ks, hks⟩ : ∃ ks, ofP (root :: g') = ks := ⟨_, rfl⟩
    rw [hks] at HM HE ⊢
    clear hks hW hSe
    clear h hnd hlen hS hkW hbx hWs hpg hB0 hm hD hfit
    unfold mmI mmV pgV leadV at *
    go_enter Try.func45, Try.ntmps45
    go_wp2_with (first
      | (go_at_call 34; rw [HW.out, HSE.out]; refine (HT.out _).mono ?_; rintro e V ⟨rfl, hk⟩; have HC := Lib.hid (HM.out V hk); have HK := Lib.hid hk; clear hk)
      | (go_at_call 59; refine HC.out.mono ?_; rintro e V2 ⟨v4, rfl, hs4, hm4, hk4⟩; have HR := Lib.hid (HE.out V V2 v4 HK.out hm4 hk4); have c1 : V2.cell? ⟨S, 1, none⟩ = some v4 := (cell_of_row _ _ 1 _ _ _ hs4.box).trans rfl; have c2 : V2.cell? ⟨S, 2, none⟩ = some (.int .i64 0) := (cell_of_row _ _ 2 _ _ _ hs4.box).trans rfl; clear hs4 hm4 hk4))
    go_ret2
    exact HR.out

theorem trCheckM {N : List Nd} (hN : N.length ≤ 511) (hfit : ∀ (i : Nat) (h : i < N.length), Fits N[i].2) {w : World} {s room x c : Nat} {D : Nat → Prop} {M : Int → Option (Option Lf9)} (h : IsSh w s room N D) (hD : ∀ k, D k → k ≠ x) (hm : IsMm w x c N M) (hc : c ≤ 90000) {root l : Nat} {qs : Pairs} {g : List Nat} (ht : TreeG N root l qs g) (hnd : g.Nodup) :
    Calls Try.prog 28 #[mmI s x, .int .i64 (root : Int)] w fun e w' => e = .returned (.int .i64 0) ∧ MmS w' x c N M (ofP g) ∧ KeptIn (fun j => j < w.heap.size ∧ j ≠ x) w w' := by
  have HC := Lib.hid (trReachM hN hfit h hD hm hc ht hnd)
  obtain ⟨ks, hks⟩ : ∃ ks, ofP g = ks := ⟨_, rfl⟩
  rw [hks] at HC ⊢
  unfold mmI mmV pgV at *
  clear h ht hnd hm hD hfit hks
  go_enter Try.func28, Try.ntmps28
  go_wp2_with (go_at_call 45; refine HC.out.mono ?_; rintro e V ⟨v, rfl, hr, hk⟩; have HR := Lib.hid (And.intro hr hk); clear hr hk)
  go_ret
  exact ⟨rfl, HR.out⟩

end Go.Proofs.Ytjollbaohopmjaa
