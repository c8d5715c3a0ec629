import Derived.Test.YtlnlgapjlekehaaLo3K
/- TreeMap of layer 8: the reference's Look at a tree of two levels at most. -/
set_option linter.unusedVariables false
namespace Go.Proofs.Ytlnlgapjlekehaa
open Go.RowKit

/-- What Look answers. -/
def LookS (w : World) (g : List Nat) (qs : Pairs) (e : Ending) (w' : World) : Prop :=
  ∃ (T B0 : Nat) (pv qv : Value), e = .returned (.pointer (some ⟨T, 0, none⟩)) ∧ LkAt w' T B0 pv qv (ofP g) qs ∧ KeptIn (· < w.heap.size) w w'

set_option maxHeartbeats 1000000 in
theorem r8Look {N : List Nd} {s room root l cap : Nat} {qs : Pairs} {g : List Nat} {w : World} {D : Nat → Prop} {la : Option Addr} (hla : w.cell? ⟨s, 0, none⟩ = some (.slice la N.length cap)) (hsh : IsSh w s room N D) (ht : TreeG N root l qs g) (hnd : g.Nodup) (hl : l ≤ 1) (hq : qs.length ≤ 1000) :
    Calls Try.prog 16 #[.slice la N.length cap, .int .i64 (root : Int)] w (LookS w g qs) := by
  have hN := hsh.len
  obtain ⟨W, hW⟩ : ∃ W, w.alloc (.cells #[.slice none 0 0, .slice none 0 0, .bool false] 53) = W := ⟨_, rfl⟩
  have hst := LkAt.start w
  have hk : KeptIn (· < w.heap.size) w W := by rw [← hW]; exact (KeptIn.refl _ w).alloc (fun _ h => h) _
  rw [hW] at hst
  obtain ⟨T, hT⟩ : ∃ T, w.heap.size = T := ⟨_, rfl⟩
  rw [hT] at hst
  have hlaW : W.cell? ⟨s, 0, none⟩ = some (.slice la N.length cap) := (World.cell?_of_block (a := ⟨s, 0, none⟩) (hk.block s (hsh.lt s hsh.ds))).trans hla
  have hshW := hsh.old hk
  have hD : ∀ k, D k → k < T := fun k h => by rw [← hT]; exact hsh.lt k h
  have hgl : g.length ≤ 511 := Nat.le_trans (nodup_le N.length g hnd ht.pages) hN
  have HW := Lib.hid (And.intro hW hT)
  have HK := Lib.hid hk
  rcases ht with ⟨rfl, rfl, rfl, _⟩ | ⟨ps, g', hS, hl7, h15, rfl⟩
  · have HE : Hid (LookS w [] [] (.returned (.pointer (some ⟨T, 0, none⟩))) W) := Lib.hid ⟨T, _, _, _, rfl, hst, hk⟩
    clear hla hsh hst hk hlaW hshW hD hW hT hnd hgl
    go_enter Try.func16, Try.ntmps16
    go_wp2_with fail
    rw [HW.out.1]
    simp only [HW.out.2]
    go_ret
    exact HE.out
  · have hp : ¬ root = 0 := by
      have h1 := nodeOf_at hS.node
      obtain ⟨ix, h2, h3, _⟩ := h1
      omega
    have hgl2 : g'.length + 1 ≤ 511 := by simpa using hgl
    have hnd2 : (([] : List Int) ++ ofP (root :: g')).Nodup := by
      rw [List.nil_append]
      exact List.pairwise_map.2 (hnd.imp fun {a b} h e => h (Int.ofNat.inj e))
    have HC : Hid (Calls Try.prog 41 #[.pointer (some ⟨T, 0, none⟩), .slice la N.length cap, .int .i64 (root : Int), .int .i64 (-1), .int .u64 0, .bool false, .int .u64 0] W (LkP W T (T + 1) (fun _ => False) (ofP (root :: g')) qs)) := Lib.hid (by
      rcases Nat.le_one_iff_eq_zero_or_eq_one.1 hl with rfl | rfl
      · have hS' : SndL N true (-1) 0 topH 0 root ps qs g' := ⟨hS.node, hS.fit, hS.body, hS.srt, hS.high⟩
        have hb := hS.body
        obtain ⟨rfl, rfl⟩ := hb
        have := r8look0 (root := true) (has := false) (hig := 0) (fun _ => False) hN s room hlaW hshW hD hst hS' rfl h15 (by decide) (fun h => by cases h) hnd2 (by simp) (by simp) (fun k h => h.elim)
        exact this
      · have hS' : SndL N true (-1) 0 topH 1 root ps qs g' := ⟨hS.node, hS.fit, hS.body, hS.srt, hS.high⟩
        have := r8look1 hN s room hlaW hshW hD hst hS' h15 (by decide) hnd2 (by simp only [List.length_nil]; omega) (by simp only [List.length_nil]; omega)
        exact this)
    have HP := Lib.hid hp
    have q0 : ((root : Int) == 0) = false := by rw [beq_eq_false_iff_ne]; omega
    have q1 : ¬ (root : Int) = 0 := by omega
    clear hla hsh hst hlaW hshW hD hW hT hnd hgl hp hS hl7 h15 hgl2 hnd2 hl hq hN hk
    go_enter Try.func16, Try.ntmps16
    go_wp2_with fail
    rw [HW.out.1]
    simp only [HW.out.2]
    refine HC.out.mono ?_
    rintro e V ⟨pv, qv, rfl, hl2, hk2, -⟩
    have HE : Hid (LookS w (root :: g') qs (.returned (.pointer (some ⟨T, 0, none⟩))) V) := Lib.hid ⟨T, _, _, _, rfl, hl2, HK.out.trans (hk2.mono fun k hk => by
      have := HW.out.2
      have := HK.out.size
      exact ⟨by omega, by omega, .inl (by omega)⟩)⟩
    clear hl2 hk2
    go_wp2_with fail
    go_ret
    exact HE.out

end Go.Proofs.Ytlnlgapjlekehaa
