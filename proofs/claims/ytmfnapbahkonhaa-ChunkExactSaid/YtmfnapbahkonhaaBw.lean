/- strings.Builder: Grow, Write of a sector, String; what lies below B stays. -/
import Derived.Test.YtmfnapbahkonhaaShelf
import Derived.Test.YtmfnapbahkonhaaDisc
import Derived.OwnWalk
set_option linter.unusedVariables false
namespace Go.Proofs.Ytmfnapbahkonhaa
open Go.RowKit

/-- A builder at block b that holds the bytes l; all that it owns lies at or beyond B. -/
def IsBw (B b : Nat) (l : List UInt8) (w : World) : Prop := Lib.IsBuilder 90 5 B b (Lib.byteCells l) w

theorem IsBw.kept {X : Nat → Prop} {B b : Nat} {l : List UInt8} {w w' : World} (h : IsBw B b l w) (hk : KeptIn X w w') (hX : ∀ k, k < w.heap.size → X k) : IsBw B b l w' := by
  rcases h with ⟨hB, v, hb, hown, hne⟩ | ⟨hB, v, hb, hown, hne⟩
  · refine .inl ⟨hB, v, (hk.block b (hX b (Array.getElem?_eq_some_iff.1 hb).1)).trans hb, hown.kept (row := none) ⟨hk.os, hk.tape, hk.output, hk.size, fun k h1 _ => hk.block k (hX k h1)⟩ (by cases v.ownBlock <;> simp), hne⟩
  · refine .inr ⟨hB, v, (hk.block b (hX b (Array.getElem?_eq_some_iff.1 hb).1)).trans hb, hown.kept (row := none) ⟨hk.os, hk.tape, hk.output, hk.size, fun k h1 _ => hk.block k (hX k h1)⟩ (by cases v.ownBlock <;> simp), hne⟩

theorem bGrowNew (n : Nat) (w : World) (hn : n ≤ 281474976710656) (b : Nat) (hb : w.heap[b]? = some (.cells #[.pointer none, .slice none 0 0] 90 (0, 0))) :
    Calls Try.prog 42 #[.pointer (some ⟨b, 0, none⟩), .int .i64 n] w fun e w' => e = .returned (.tuple #[]) ∧ IsBw b b [] w' ∧ KeptIn (· < b) w w' := by
  refine (Try.Builder_Grow_fresh b b n w (Nat.le_refl _) hb (Nat.le_of_lt (Array.getElem?_eq_some_iff.1 hb).1) hn).mono ?_
  rintro e w' ⟨rfl, h1, h2⟩
  exact ⟨rfl, .inr h1, KeptIn.of_below h2 (fun _ h => h)⟩

theorem bStringW (B b : Nat) (l : List UInt8) (w : World) (h : IsBw B b l w) (hB : B ≤ w.heap.size) :
    Calls Try.prog 45 #[.pointer (some ⟨b, 0, none⟩)] w fun e w' => e = .returned (.string ⟨l.toArray⟩) ∧ KeptIn (· < B) w w' := by
  refine (Try.Builder_String_any B b l w h hB).mono ?_
  rintro e w' ⟨rfl, h2⟩
  exact ⟨rfl, KeptIn.of_below h2 (fun _ h => h)⟩

theorem bCheckW (B b : Nat) (l : List UInt8) (w : World) (h : IsBw B b l w) :
    Calls Try.prog 53 #[.pointer (some ⟨b, 0, none⟩)] w fun e w' => e = .returned (.tuple #[]) ∧ Lib.BuilderAt 90 5 B b (.pointer (some ⟨b, 0, none⟩)) (Lib.byteCells l) w' ∧ KeptIn (· ≠ b) w w' := by
  rcases h with h | h
  · refine (Any.Builder_copyCheck_fresh (ρ := Try.lays165_ren) { Try.lays165 with } Try.Builder_Extra_165.toX72 b w h.cell0 h.shape h.frozen0).mono ?_
    rintro e w' ⟨rfl, rfl⟩
    exact ⟨rfl, h.used _, (KeptIn.refl _ _).setCell (by simp) _⟩
  · refine (Any.Builder_copyCheck_used (ρ := Try.lays165_ren) { Try.lays165 with } Try.Builder_Extra_165.toX72 b w h.cell0).mono ?_
    rintro e w' ⟨rfl, rfl⟩
    exact ⟨rfl, h, .refl _ _⟩

set_option maxHeartbeats 1000000 in
set_option maxRecDepth 100000 in
theorem bWriteSec (B b q : Nat) (l c : List UInt8) (w : World) (h : IsBw B b l w) (hq : SecAt q c w) (hB : B ≤ w.heap.size) (hlen : l.length + 16 ≤ 140737488355328) :
    Calls Try.prog 44 #[.pointer (some ⟨b, 0, none⟩), .slice (some ⟨q, 0, none⟩) 16 16] w fun e w' => e = .returned (.tuple #[.int .i64 16, .nilIface]) ∧ IsBw B b (l ++ c) w' ∧ KeptIn (· < B) w w' := by
  have hqb : q ≠ b := fun e => by
    have h1 := hq.2
    rw [e] at h1
    rcases h with ⟨_, v, h2, _⟩ | ⟨_, v, h2, _⟩
    · rw [h1] at h2
      simp only [Option.some.injEq, Obj.cells.injEq] at h2
      exact absurd h2.2.1 (by decide)
    · rw [h1] at h2
      simp only [Option.some.injEq, Obj.cells.injEq] at h2
      exact absurd h2.2.1 (by decide)
  obtain ⟨i0, hi, hz0, hz1, hz2⟩ := info_parts Try.Builder_Extra_165.infoByte
  have hBb : B ≤ b := by rcases h with h | h <;> exact h.1
  go_enter Try.func44, Try.ntmps44
  go_wp2_with (go_at_call 53; refine (bCheckW B b l _ h).mono ?_)
  rintro e w1 ⟨rfl, h1, hk1⟩
  obtain ⟨hB', v, hbk, hown, hne⟩ := h1
  have c1 : w1.cell? ⟨b, 1, none⟩ = some v := by rw [Lib.cell_of_heap hbk]; rfl
  have hq1 : SecAt q c w1 := hq.kept hk1 hqb
  have hnews : ∀ j u, (Lib.byteCells c)[j]? = some u → w1.cell? ((⟨q, 0, none⟩ : Addr).add j) = some u := fun j u hj => by
    rw [Addr.add_mid]
    exact range_sec hq1 j u hj
  have hnl : (Lib.byteCells c).length = 16 * 1 := by rw [Lib.byteCells_length, hq.1]
  have hll : (Lib.byteCells l).length = l.length := Lib.byteCells_length l
  have hsz := hk1.size
  go_wp2_with (at_builtin; refine wpList_append_own _ rfl _ _ 84 rfl B 5 i0 (.int .u8 0) 1 1 Try.underlying84 hi hz0 hz1 hz2 rfl (by decide) _ _ _ rfl hown ⟨q, 0, none⟩ 16 16 (Lib.byteCells c) rfl hnl hnews (Lib.byteCells_one _) ?c3 ?c4 ?c5 ?_)
  case c3 => unfold maxLen; omega
  case c4 => omega
  case c5 => omega
  intro v' w2 hown' hgrow _
  have hlt : b < w1.heap.size := (Array.getElem?_eq_some_iff.1 hbk).1
  have hb2 : w2.heap[b]? = some (.cells #[.pointer (some ⟨b, 0, none⟩), v] 90 (0, 0)) := by
    rw [hgrow.block b hlt (fun e => hne e.symm)]
    exact hbk
  have d1 : w2.cell? ⟨b, 1, none⟩ = some v := by rw [Lib.cell_of_heap hb2]; rfl
  have f1 : w2.frozen? ⟨b, 1, none⟩ = false := Lib.frozen_of_heap hb2 1
  obtain ⟨ao, n', cap, rfl⟩ : ∃ ao n' cap, v' = .slice ao n' cap := by
    rcases hown'.2 with ⟨hv, _⟩ | ⟨g, cap, cur, hv, _⟩
    · exact ⟨_, _, _, hv⟩
    · exact ⟨_, _, _, hv⟩
  have hkW : KeptIn (· < B) w w2 := (hk1.mono fun k hk => by omega).trans (KeptIn.of_below ((Below.refl B w1).grown hgrow (by omega) (fun k hk => (hown.lt k hk).1)) (fun _ h => h))
  have HK := Lib.hid hkW
  have HO : Hid (w2.ownsRow B 5 1 (.slice ao n' cap) (Lib.byteCells (l ++ c)).length (Lib.byteCells (l ++ c))) := Lib.hid (by
    rw [Lib.byteCells_append, List.length_append, hnl, hll]
    exact hown')
  clear hown hown' hgrow hk1 hnews hnl hll hq1 h hq hkW hi hz0 hz1 hz2 c1
  go_wp2
  go_ret2
  exact ⟨rfl, .inr (Lib.BuilderAt.put hB' hb2 HO.out (by decide)), HK.out.setCell (by show ¬ b < B; omega) _⟩

end Go.Proofs.Ytmfnapbahkonhaa
