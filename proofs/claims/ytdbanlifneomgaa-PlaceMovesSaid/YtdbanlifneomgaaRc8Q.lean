import Derived.Test.YtdbanlifneomgaaSe8Q
/- Package tree's Reach, Check over a sound tree. -/
set_option linter.unusedVariables false
namespace Go.Proofs.Ytdbanlifneomgaa
open Go.RowKit

theorem ofP_nodup {l : List Nat} (h : l.Nodup) : (ofP l).Nodup := by
  unfold ofP List.Nodup
  rw [List.pairwise_map]
  exact h.imp fun hab e => hab (Int.ofNat.inj e)

/-- The pages of a tree, and no error. -/
def RchS (w : World) (ks : List Int) (e : Ending) (w' : World) : Prop := ∃ v, e = .returned (.tuple #[v, .int .i64 0]) ∧ w'.ownsRow w.heap.size 3 1 v ks.length (cellsI ks) ∧ KeptIn (· < w.heap.size) w w'

theorem so_end {w W V V2 : World} {S s B0 : Nat} {v : Value} {ks : List Int} (hkW : KeptIn (· < w.heap.size) w W) (hk : KeptIn (· < W.heap.size) W V) (hS : w.heap.size = S) (hB : S < B0) (hBW : B0 = W.heap.size) (hsv : SvAt V2 S s B0 v ks) (h2 : KeptIn (SdY V S B0) V V2) : RchS w ks (.returned (.tuple #[v, .int .i64 0])) V2 := by
  refine ⟨v, rfl, row_weakenI hsv.row (by omega), (hkW.go hk).trans (h2.mono fun k hk2 => ?_)⟩
  have hz : w.heap.size ≤ V.heap.size := (hkW.go hk).size
  exact ⟨by omega, by omega, .inl (by omega)⟩

set_option maxRecDepth 100000 in
set_option maxHeartbeats 4000000 in
theorem trReach {N : List Nd} (hN : N.length ≤ 511) {w : World} {s room : Nat} {D : Nat → Prop} (h : IsSh w s room N D) {root l : Nat} {qs : Pairs} {g : List Nat} (ht : TreeG N root l qs g) (hnd : g.Nodup) :
    Calls Try.prog 59 #[pgV s, .int .i64 (root : Int)] w (RchS w (ofP g)) := by
  have hlen : g.length ≤ 511 := Nat.le_trans (nodup_le N.length g hnd ht.pages) hN
  rcases ht with ⟨rfl, rfl, rfl, _⟩ | ⟨ps, g', hS, hl7, h15, rfl⟩
  · have HE : Hid (RchS w (ofP []) (.returned (.tuple #[.slice none 0 0, .int .i64 0])) w) := Lib.hid ⟨_, rfl, ⟨rfl, .inl ⟨rfl, rfl⟩⟩, KeptIn.refl _ _⟩
    unfold pgV
    clear h hnd hlen
    go_enter Try.func59, Try.ntmps59
    go_wp2_with fail
    go_ret2
    exact HE.out
  · have hpg := nodeOf_le hS.node
    have p0 : ((root : Int) == 0) = false := by rw [beq_eq_false_iff_ne]; omega
    have p1 : ¬ ((root : Int) = 0) := by omega
    obtain ⟨W, hW⟩ : ∃ W, w.alloc (.cells #[pgV s, .slice none 0 0, .int .i64 0] 156) = W := ⟨_, rfl⟩
    have hkW : KeptIn (· < w.heap.size) w W := by rw [← hW]; exact (KeptIn.refl _ w).alloc (fun _ h => h) _
    have hbx : W.heap[w.heap.size]? = some (.cells #[pgV s, .slice none 0 0, .int .i64 0] 156 (0, 0)) := by rw [← hW]; exact heap_alloc_new w _
    have hWs : W.heap.size = w.heap.size + 1 := by rw [← hW]; simp
    obtain ⟨S, hSe⟩ : ∃ S, w.heap.size = S := ⟨_, rfl⟩
    obtain ⟨B0, hB0⟩ : ∃ B0, W.heap.size = B0 := ⟨_, rfl⟩
    have hSB : S < B0 := by omega
    have HM : Hid (∀ V, KeptIn (· < W.heap.size) W V → Calls Try.prog 74 #[.pointer (some ⟨S, 0, none⟩), leadV root true 0 0 18446744073709551615] V (SoP V S s B0 (ofP (root :: g')))) := Lib.hid fun V hk => by
      have hsv0 : SvAt W S s B0 (.slice none 0 0) [] := ⟨by rw [← hSe]; exact hbx, ⟨rfl, .inl ⟨rfl, rfl⟩⟩, hSB, Nat.le_of_eq hB0.symm⟩
      have := trSound hN s room ((h.old hkW).old hk) (fun k hk => by rw [← hSe]; exact h.lt k hk) (hsv0.old hk) hS hl7 h15 (by decide) (by simpa using ofP_nodup hnd) (by simp at hlen ⊢; omega)
      rw [List.nil_append] at this
      exact this
    have HE : Hid (∀ V V2 v, KeptIn (· < W.heap.size) W V → SvAt V2 S s B0 v (ofP (root :: g')) → KeptIn (SdY V S B0) V V2 → RchS w (ofP (root :: g')) (.returned (.tuple #[v, .int .i64 0])) V2) := Lib.hid fun V V2 v h1 h2 h3 => so_end hkW h1 hSe hSB hB0.symm h2 h3
    have HT := Lib.hid fun V => trToRoot root V
    have HW := Lib.hid hW
    have HSE := Lib.hid hSe
    obtain ⟨ks, hks⟩ : ∃ ks, ofP (root :: g') = ks := ⟨_, rfl⟩
    rw [hks] at HM HE ⊢
    clear hks hW hSe
    clear h hnd hlen hS hkW hbx hWs hpg hB0
    unfold pgV leadV at *
    go_enter Try.func59, Try.ntmps59
    go_wp2_with (first
      | (go_at_call 42; rw [HW.out, HSE.out]; refine (HT.out _).mono ?_; rintro e V ⟨rfl, hk⟩; have HC := Lib.hid (HM.out V hk); have HK := Lib.hid hk; clear hk)
      | (go_at_call 74; refine HC.out.mono ?_; rintro e V2 ⟨v4, rfl, hs4, hk4⟩; have HR := Lib.hid (HE.out V V2 v4 HK.out hs4 hk4); have c1 : V2.cell? ⟨S, 1, none⟩ = some v4 := (cell_of_row _ _ 1 _ _ _ hs4.box).trans rfl; have c2 : V2.cell? ⟨S, 2, none⟩ = some (.int .i64 0) := (cell_of_row _ _ 2 _ _ _ hs4.box).trans rfl; clear hs4 hk4))
    go_ret2
    exact HR.out

theorem trCheck {N : List Nd} (hN : N.length ≤ 511) {w : World} {s room : Nat} {D : Nat → Prop} (h : IsSh w s room N D) {root l : Nat} {qs : Pairs} {g : List Nat} (ht : TreeG N root l qs g) (hnd : g.Nodup) :
    Calls Try.prog 43 #[pgV s, .int .i64 (root : Int)] w fun e w' => e = .returned (.int .i64 0) ∧ KeptIn (· < w.heap.size) w w' := by
  have HC := Lib.hid (trReach hN h ht hnd)
  unfold pgV at *
  clear h ht hnd
  go_enter Try.func43, Try.ntmps43
  go_wp2_with (go_at_call 59; refine HC.out.mono ?_; rintro e V ⟨v, rfl, hr, hk⟩)
  go_ret
  exact ⟨rfl, hk⟩

end Go.Proofs.Ytdbanlifneomgaa
