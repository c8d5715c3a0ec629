import Derived.Test.YtdbohcdjamhdjaaAo8W
/- Package tree's addParted, pile. -/
set_option linter.unusedVariables false
namespace Go.Proofs.Ytdbohcdjamhdjaa
open Go.RowKit

theorem pt_gt (n : Nat) (h : 15 < n) : (15 : Int) < (n : Int) ∧ ¬ ((n : Int) ≤ 15) := by omega
theorem pt_le (n : Nat) (h : n ≤ 15) : ¬ ((15 : Int) < (n : Int)) ∧ (n : Int) ≤ 15 := by omega

/-- A row of pairs of one's own, or none, as a list to be added. -/
def ListOk2 (w : World) (s : Nat) (a : Option Addr) (cap : Nat) (l : Pairs) : Prop := IsPs w a l ∧ l.length ≤ cap ∧ cap ≤ maxLen ∧ ∃ b off, b ≠ s ∧ (0 < l.length → a = some ⟨b, off, none⟩)
theorem ListOk2.old {w W : World} {s : Nat} {a : Option Addr} {cap : Nat} {l : Pairs} (h : ListOk2 w s a cap l) (hk : KeptIn (· < w.heap.size) w W) : ListOk2 W s a cap l := ⟨h.1.old hk, h.2⟩

theorem trNodes2 {w : World} {s room : Nat} {N : List Nd} {D : Nat → Prop} (h : IsSh w s room N D) (lv m cap : Nat) (a : Option Addr) (l : Pairs) (hl : ListOk2 w s a cap l) (hm : 0 < m) (hm15 : m ≤ 15) (hl2 : l.length ≤ 1000) (hNc : N.length ≤ min room 511) :
    Calls Try.prog 56 #[pgV s, .int .i64 (lv : Int), .slice a l.length cap, .int .i64 (m : Int)] w (NodesS w s room D (nodesM (min room 511) lv m l N)) := by
  obtain ⟨h1, h2, h3, b, off, h4, h5⟩ := hl
  exact trNodes h lv m b off cap a l h5 h1 h2 h3 h4 hm hm15 hl2 hNc

theorem NodesS.from {w0 w : World} {s room : Nat} {D : Nat → Prop} {r : Option Pairs × List Nd} {e : Ending} {w' : World} (hk : KeptIn (· < w0.heap.size) w0 w) (h : NodesS w s room D r e w') : NodesS w0 s room D r e w' := by
  refine ⟨?_, h.2.from hk⟩
  have h1 := h.1
  unfold ResL at h1 ⊢
  split at h1
  · obtain ⟨a, cap, h2, h3⟩ := h1
    exact ⟨a, cap, h2, row_weaken h3 hk.size⟩
  · exact h1

/-- What comes back of nodes as values. -/
theorem nodesS_val {w : World} {s room : Nat} {D : Nat → Prop} {r : Option Pairs × List Nd} {e : Ending} {w' : World} (h : NodesS w s room D r e w') :
    ∃ (a : Option Addr) (n cap : Nat) (er : Nat), e = .returned (.tuple #[.slice a n cap, .int .i64 (er : Int)]) ∧ AddTo w s room D r.2 w' ∧ (er = 0 ↔ r.1.isSome) ∧ (er ≠ 0 → er = 6) := by
  obtain ⟨h1, h2⟩ := h
  unfold ResL at h1
  split at h1
  · rename_i ls e1
    obtain ⟨a, cap, h3, h4⟩ := h1
    exact ⟨a, _, cap, 0, h3, h2, by simp [e1], fun h => absurd rfl h⟩
  · rename_i e1
    exact ⟨none, 0, 0, 6, h1, h2, by simp [e1], fun _ => rfl⟩

set_option maxRecDepth 100000 in
theorem trParted {w : World} {s room : Nat} {N : List Nd} {D : Nat → Prop} (h : IsSh w s room N D) (lv cap : Nat) (a : Option Addr) (l : Pairs) (hl : ListOk2 w s a cap l) (hl2 : l.length ≤ 1000) (hNc : N.length ≤ min room 511) :
    Calls Try.prog 39 #[pgV s, leafV (lv : Int) a l.length cap] w (NodesS w s room D (partM (min room 511) lv l N)) := by
  obtain ⟨W, hW⟩ : ∃ W, w.alloc (.cells #[.int .i64 (lv : Int), .slice a l.length cap] 27) = W := ⟨_, rfl⟩
  have hk : KeptIn (· < w.heap.size) w W := by rw [← hW]; exact (KeptIn.refl _ w).alloc (fun _ h => h) _
  have hb : BoxL w.heap.size (lv : Int) a l.length cap W := by rw [← hW]; exact BoxL.new w _ _ _ _
  have c0 := hb.c0
  have c1 := hb.c1
  have HK := Lib.hid hk
  unfold partM
  by_cases h15 : 15 < l.length
  · have C := trNodes2 (h.old hk) lv 8 cap a l (hl.old hk) (by omega) (by omega) hl2 hNc
    obtain ⟨z1, z2⟩ := pt_gt _ h15
    rw [if_pos h15]
    obtain ⟨R, hR⟩ : ∃ R, nodesM (min room 511) lv 8 l N = R := ⟨_, rfl⟩
    rw [hR] at C ⊢
    obtain ⟨n, hn⟩ : ∃ n, l.length = n := ⟨_, rfl⟩
    rw [hn] at C c1 hW z1 z2 ⊢
    have HC := Lib.hid C
    unfold pgV leafV at *
    clear C h hl hl2 hNc hk hb hR hn h15
    go_enter Try.func39, Try.ntmps39
    go_wp2_with (go_at_call 56; refine HC.out.mono ?_; rintro e V hS; obtain ⟨a9, n9, c9, er, rfl, hA, hB, hC⟩ := nodesS_val hS; have HS := Lib.hid hS; clear hS hA hB hC)
    go_ret2
    exact HS.out.from HK.out
  · have C := trNodes2 (h.old hk) lv 15 cap a l (hl.old hk) (by omega) (by omega) hl2 hNc
    obtain ⟨z1, z2⟩ := pt_le l.length (by omega)
    rw [if_neg h15]
    obtain ⟨R, hR⟩ : ∃ R, nodesM (min room 511) lv 15 l N = R := ⟨_, rfl⟩
    rw [hR] at C ⊢
    obtain ⟨n, hn⟩ : ∃ n, l.length = n := ⟨_, rfl⟩
    rw [hn] at C c1 hW z1 z2 ⊢
    have HC := Lib.hid C
    unfold pgV leafV at *
    clear C h hl hl2 hNc hk hb hR hn h15
    go_enter Try.func39, Try.ntmps39
    go_wp2_with (go_at_call 56; refine HC.out.mono ?_; rintro e V hS; obtain ⟨a9, n9, c9, er, rfl, hA, hB, hC⟩ := nodesS_val hS; have HS := Lib.hid hS; clear hS hA hB hC)
    go_ret2
    exact HS.out.from HK.out

end Go.Proofs.Ytdbohcdjamhdjaa
