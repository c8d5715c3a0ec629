import Derived.Test.YtdbohcdjamhdjaaPt8W
/- Package tree's pile. -/
set_option linter.unusedVariables false
namespace Go.Proofs.Ytdbohcdjamhdjaa
open Go.RowKit

/-- A page comes back, or that there is no room. -/
def PageS (w : World) (s room : Nat) (D : Nat → Prop) (r : Option Nat × List Nd) (e : Ending) (w' : World) : Prop :=
  (∃ p er : Nat, e = .returned (.tuple #[.int .i64 (p : Int), .int .i64 (er : Int)]) ∧ (match r.1 with | some q => p = q ∧ er = 0 | none => p = 0 ∧ er = 6)) ∧ AddTo w s room D r.2 w'
theorem PageS.from {w0 w : World} {s room : Nat} {D : Nat → Prop} {r : Option Nat × List Nd} {e : Ending} {w' : World} (hk : KeptIn (· < w0.heap.size) w0 w) (h : PageS w s room D r e w') : PageS w0 s room D r e w' := ⟨h.1, h.2.from hk⟩

theorem AddTo.trans {w V W : World} {s room : Nat} {D D' : Nat → Prop} {N' : List Nd} (hD' : ∀ k, D' k → D k ∨ w.heap.size ≤ k) (hk : KeptIn (fun k => k < w.heap.size ∧ k ≠ s) w V) (h : AddTo V s room D' N' W) : AddTo w s room D N' W := by
  obtain ⟨D2, h1, h2, h3⟩ := h
  exact ⟨D2, h1, fun k hd => by
    rcases h2 k hd with h | h
    · exact hD' k h
    · exact .inr (Nat.le_trans hk.size h), hk.trans (h3.mono fun k h => ⟨Nat.lt_of_lt_of_le h.1 hk.size, h.2⟩)⟩

/-- Leads as a list to be added. -/
theorem row_listOk {W : World} {s B cap : Nat} {a : Option Addr} {l : Pairs} (h : W.ownsRow B 82 2 (.slice a l.length cap) l.length (cellsP l)) (hf : Fits l) (hs : s < B) : ListOk2 W s a cap l := by
  refine ⟨row_IsPs h hf, ?_⟩
  rcases h.2 with ⟨e, h0⟩ | ⟨g, cap1, cur, e, hg, _, h1, h2, _⟩
  · simp only [Value.slice.injEq] at e
    obtain ⟨rfl, _, rfl⟩ := e
    exact ⟨by omega, Nat.zero_le _, s + 1, 0, by omega, fun h => by omega⟩
  · simp only [Value.slice.injEq, true_and] at e
    obtain ⟨rfl, rfl⟩ := e
    exact ⟨h1, h2, g, 0, by omega, fun _ => rfl⟩

theorem nodesM_some {c lv m : Nat} {l : Pairs} {N : List Nd} {ls : Pairs} {N1 : List Nd} (h : nodesM c lv m l N = (some ls, N1)) : ls = leadsOf N.length m l (partsOf m l.length) ∧ N1 = N ++ nodesOf lv m l (partsOf m l.length) ∧ N.length + partsOf m l.length ≤ c := by
  unfold nodesM at h
  split at h
  · rename_i hf
    obtain ⟨h1, h2⟩ := Prod.mk.inj h
    exact ⟨(Option.some.inj h1).symm, h2.symm, hf⟩
  · cases (Prod.mk.inj h).1
theorem nodesM_none {c lv m : Nat} {l : Pairs} {N : List Nd} {N1 : List Nd} (h : nodesM c lv m l N = (none, N1)) : c < N.length + partsOf m l.length ∧ N1 = N ++ nodesOf lv m l (c - N.length) := by
  unfold nodesM at h
  split at h
  · cases (Prod.mk.inj h).1
  · rename_i hf
    exact ⟨by omega, (Prod.mk.inj h).2.symm⟩
theorem leadsOf_fits {n m : Nat} {l : Pairs} {k : Nat} (hf : Fits l) (hn : n + k ≤ 100000) (hk : ∀ j, j < k → m * j < l.length) : Fits (leadsOf n m l k) := by
  intro p hp
  unfold leadsOf at hp
  rw [List.mem_map] at hp
  obtain ⟨j, hj, rfl⟩ := hp
  have hj := List.mem_range.1 hj
  exact ⟨(hf.at (hk j hj)).1, by show n + j + 1 < _; omega⟩

theorem pl_nums (n : Nat) (h : 0 < n) (h2 : n ≤ 1000) : (0 : Int) < (n : Int) ∧ ¬ ((n : Int) ≤ 0) ∧ 0 < n := by omega
theorem pl_one (n : Nat) : (((n : Int) == 1) = decide (n = 1)) := by
  by_cases h : n = 1
  · simp [h]
  · rw [decide_eq_false h, beq_eq_false_iff_ne]; omega

/-- Between two rounds. -/
def PlI (w : World) (s room : Nat) (D : Nat → Prop) (R : Option Nat × List Nd) (lv : Int) (v : Value) (W : World) : Prop :=
  ∃ (k f : Nat) (l : Pairs) (N : List Nd) (D' : Nat → Prop) (a : Option Addr) (cap : Nat), lv = (k : Int) ∧ v = .slice a l.length cap ∧ k + l.length ≤ 2000 ∧ pileM (min room 511) f k l N = R ∧ l.length ≤ f ∧ l.length ≤ 1000 ∧ ListOk2 W s a cap l ∧ IsSh W s room N D' ∧ N.length ≤ min room 511 ∧ (∀ k, D' k → D k ∨ w.heap.size ≤ k) ∧ KeptIn (fun k => k < w.heap.size ∧ k ≠ s) w W

set_option maxRecDepth 100000 in
set_option maxHeartbeats 2000000 in
theorem trPile {w : World} {s room : Nat} {N : List Nd} {D : Nat → Prop} (h : IsSh w s room N D) (lv cap f : Nat) (a : Option Addr) (l : Pairs) (hl : ListOk2 w s a cap l) (hl2 : l.length ≤ 1000) (hlv : lv ≤ 1000) (hNc : N.length ≤ min room 511) (hf : l.length ≤ f) :
    Calls Try.prog 40 #[pgV s, .int .i64 (lv : Int), .slice a l.length cap] w (PageS w s room D (pileM (min room 511) f lv l N)) := by
  obtain ⟨R, hR⟩ : ∃ R, pileM (min room 511) f lv l N = R := ⟨_, rfl⟩
  have HI0 : Hid (PlI w s room D R (lv : Int) (.slice a l.length cap) w) := Lib.hid ⟨lv, f, l, N, D, a, cap, rfl, rfl, by omega, hR, hf, hl2, hl, h, hNc, fun k hk => .inl hk, KeptIn.refl _ _⟩
  have hsw := h.lt s h.ds
  rw [hR]
  unfold pgV
  clear hR hl hl2 hlv hNc hf h
  obtain ⟨n, hn⟩ : ∃ n, l.length = n := ⟨_, rfl⟩
  rw [hn] at HI0 ⊢
  clear hn
  go_enter Try.func40, Try.ntmps40
  go_wp2_with fail
  go_loopw [1, 2] (fun x v wr => ∃ (W : World) (y : Int) (v0 : Value), W = wr ∧ x = .int .i64 y ∧ v0 = v ∧ Hid (PlI w s room D R y v0 W)) (fun _ v _ => slLen v)
  case atStart => exact ⟨_, _, _, rfl, rfl, rfl, HI0⟩
  case round =>
    obtain ⟨W, y, v0, rfl, rfl, rfl, HJ⟩ := hrel
    clear HI0
    obtain ⟨k, f, l, N, D', a, cap, rfl, rfl, hkl, hR, hf, hl2, hl, h, hNc, hD', hkw⟩ := HJ.out
    rcases Nat.eq_zero_or_pos l.length with h0 | h0
    · have hRR : R = (some 0, N) := by
        rw [← hR]
        cases f with
        | zero => rfl
        | succ f => unfold pileM; rw [if_pos h0]
      have HA : Hid (AddTo w s room D N W) := Lib.hid ⟨D', h, hD', hkw⟩
      subst hRR
      rw [h0]
      clear HJ hR hl h hNc hD' hkw
      go_wp2_with fail
      go_ret2
      exact ⟨⟨0, 0, rfl, rfl, rfl⟩, HA.out⟩
    · obtain ⟨f, rfl⟩ : ∃ f', f = f' + 1 := ⟨f - 1, by omega⟩
      obtain ⟨z1, z2, z3⟩ := pl_nums l.length h0 hl2
      have C := trNodes2 h k 15 cap a l hl (by omega) (by omega) hl2 hNc
      have hR' := hR
      unfold pileM at hR'
      rw [if_neg (by omega)] at hR'
      have hsW : s < W.heap.size := Nat.lt_of_lt_of_le hsw hkw.size
      cases hM : nodesM (min room 511) k 15 l N with
      | mk o1 N1 =>
        rw [hM] at C hR'
        have HF := Lib.hid (And.intro hD' (And.intro hkw (And.intro hsW (And.intro hl.1.fits (And.intro hf (And.intro hkl hNc))))))
        have HLN := Lib.hid hl2
        clear HJ hR hl h hNc hD' hkw hf hkl hl2
        cases o1 with
        | none =>
          dsimp only at hR'
          subst hR'
          have HC := Lib.hid (Calls.mono C (R' := fun e w' => e = .returned (.tuple #[.slice none 0 0, .int .i64 6]) ∧ AddTo W s room D' N1 w') fun e w' h => h)
          unfold pgV at HC
          clear C hM
          go_wp2_with (go_at_call 56; refine HC.out.mono ?_; rintro e V ⟨rfl, hA⟩; have HA := Lib.hid hA; clear hA)
          go_ret2
          exact ⟨⟨0, 6, rfl, rfl, rfl⟩, AddTo.trans HF.out.1 HF.out.2.1 HA.out⟩
        | some ls =>
          obtain ⟨hls, hN1, hfit⟩ := nodesM_some hM
          have HC := Lib.hid (Calls.mono C (R' := fun e w' => ∃ a cap, e = .returned (.tuple #[.slice a ls.length cap, .int .i64 0]) ∧ w'.ownsRow W.heap.size 82 2 (.slice a ls.length cap) ls.length (cellsP ls) ∧ AddTo W s room D' N1 w') fun e w' h => by
            obtain ⟨⟨a, cap, h1, h2⟩, h3⟩ := h
            exact ⟨a, cap, h1, h2, h3⟩)
          have hlsl : ls.length = partsOf 15 l.length := by rw [hls, leadsOf_length]
          have hfits : Fits ls := by
            rw [hls]
            exact leadsOf_fits HF.out.2.2.2.1 (by omega) fun j hj => (parts_lt (by omega)).1 hj
          have HL := Lib.hid (And.intro hls (And.intro hN1 (And.intro hfit (And.intro hlsl hfits))))
          have hp1 := pl_one ls.length
          obtain ⟨n, hn⟩ : ∃ n, ls.length = n := ⟨_, rfl⟩
          rw [hn] at HC hp1
          have HN := Lib.hid hn
          unfold pgV at HC
          clear C hM hls hN1 hfit hlsl hfits hn
          dsimp only at hR'
          by_cases hone : ls.length = 1
          · rw [if_pos hone] at hR'
            have hn1 : n = 1 := by rw [← HN.out]; exact hone
            have q0 : 0 < n := by omega
            have q1 : (0 : Int) < (n : Int) := by omega
            rw [decide_eq_true hn1] at hp1
            have hval : valAt ls 0 = N.length + 1 := by
              rw [HL.out.1]
              have : partsOf 15 l.length = 1 := by rw [← HL.out.2.2.2.1]; exact hone
              rw [this]; simp [leadsOf, valAt, List.range, List.range.loop]
            obtain ⟨v, hv⟩ : ∃ v, valAt ls 0 = v := ⟨_, rfl⟩
            have hv511 : v ≤ 511 := by
              have h1 := HL.out.2.2.1
              have h2 : partsOf 15 l.length = 1 := by rw [← HL.out.2.2.2.1]; exact hone
              omega
            obtain ⟨u1, u2⟩ := to_page v hv511
            subst hR'
            have HV := Lib.hid hv
            clear hval hv hv511 hone hn1
            go_wp2_with (go_at_call 56; refine HC.out.mono ?_; rintro e V ⟨a9, c9, rfl, hrow, hA⟩; obtain ⟨b9, o9, rfl, hb9, hc9⟩ := (row_IsPs (qs := ls) (by rw [HN.out]; exact hrow) HL.out.2.2.2.2).cells (by rw [HN.out]; exact q0); have x1 := (hc9 0 (by rw [HN.out]; exact q0)).2; rw [HV.out, Nat.zero_mul, Nat.add_zero] at x1; have HA := Lib.hid hA; clear hA hrow hc9 hb9)
            go_ret2
            exact ⟨⟨v, 0, rfl, HV.out.symm, rfl⟩, AddTo.trans HF.out.1 HF.out.2.1 HA.out⟩
          · rw [if_neg hone] at hR'
            have hn1 : ¬ n = 1 := by rw [← HN.out]; exact hone
            rw [decide_eq_false hn1] at hp1
            have hk1 : wrap64 ((k : Int) + 1) = ((k + 1 : Nat) : Int) := by have := HF.out.2.2.2.2.2.1; unfold wrap64; omega
            have HK1 := Lib.hid hk1
            clear hone hn1 hk1
            go_wp2_with (go_at_call 56; refine HC.out.mono ?_; rintro e V ⟨a9, c9, rfl, hrow, hA⟩; have HA := Lib.hid (And.intro hrow hA); clear hA hrow)
            rw [HK1.out]
            have hlt : ls.length < l.length := by
              have h1 := HL.out.2.2.2.1
              have h2 : ls.length ≠ 1 := by rw [HN.out]; exact fun e => by rw [e] at hp1; simp at hp1
              unfold partsOf at h1
              omega
            obtain ⟨D2, g1, g2, g3⟩ := HA.out.2
            have HJ2 : Hid (PlI w s room D R ((k + 1 : Nat) : Int) (.slice a9 n c9) V) := Lib.hid (by
              refine ⟨k + 1, f, ls, N1, D2, a9, c9, rfl, by rw [HN.out], by have := HF.out.2.2.2.2.2.1; omega, hR', by have := HF.out.2.2.2.2.1; omega, by have := HLN.out; omega, ?_, g1, by rw [HL.out.2.1, List.length_append, nodesOf_length]; exact HL.out.2.2.1, fun k hd => ?_, HF.out.2.1.trans (g3.mono fun k h => ⟨Nat.lt_of_lt_of_le h.1 HF.out.2.1.size, h.2⟩)⟩
              · have := HA.out.1
                rw [← HN.out] at this
                exact row_listOk this HL.out.2.2.2.2 HF.out.2.2.1
              · rcases g2 k hd with h | h
                · exact HF.out.1 k h
                · exact .inr (Nat.le_trans HF.out.2.1.size h))
            have HLT := Lib.hid (And.intro hlt HN.out)
            clear hlt g1 g2 g3 HA HC
            go_wp2_with fail
            go_roundw
            case rel => exact ⟨_, _, _, rfl, rfl, rfl, HJ2⟩
            case measure => have := HLT.out; simp [slLen]; omega

end Go.Proofs.Ytdbohcdjamhdjaa
