import Derived.Test.YtdbohcdjamhdjaaV7
import Derived.Test.YtdbohcdjamhdjaaPu8W
import Derived.Test.YtdbohcdjamhdjaaOm8W
/- A tree as a row of pairs: Put, Drop, Get, Range, Check on a Shelf with room; all it is made of is newer than a world. -/
set_option linter.unusedVariables false
namespace Go.Proofs.Ytdbohcdjamhdjaa
open Go.RowKit

/-- A tree on the Shelf at s: its pairs, its weight, its Shelf's nodes. -/
def TrM (w0 : World) (s room root : Nat) (qs : Pairs) (f c : Nat) (W : World) : Prop :=
  ∃ N D, IsSh W s room N D ∧ TrI N root qs f ∧ N.length ≤ c ∧ N.length ≤ min room 511 ∧ (∀ k, D k → w0.heap.size ≤ k) ∧ KeptIn (· < w0.heap.size) w0 W

theorem TrM.old {w0 W W' : World} {s room root f c : Nat} {qs : Pairs} (h : TrM w0 s room root qs f c W) (hk : KeptIn (· < W.heap.size) W W') : TrM w0 s room root qs f c W' := by
  obtain ⟨N, D, h1, h2, h3, h4, h5, h6⟩ := h
  exact ⟨N, D, h1.old hk, h2, h3, h4, h5, h6.go hk⟩
theorem TrM.kept {w0 W : World} {s room root f c : Nat} {qs : Pairs} (h : TrM w0 s room root qs f c W) : KeptIn (· < w0.heap.size) w0 W := by
  obtain ⟨N, D, h1, h2, h3, h4, h5, h6⟩ := h
  exact h6
theorem TrM.mono {w0 W : World} {s room root f c f' c' : Nat} {qs : Pairs} (h : TrM w0 s room root qs f c W) (hf : f ≤ f') (hc : c ≤ c') : TrM w0 s room root qs f' c' W := by
  obtain ⟨N, D, h1, h2, h3, h4, h5, h6⟩ := h
  exact ⟨N, D, h1, h2.mono hf, Nat.le_trans h3 hc, h4, h5, h6⟩
theorem TrM.srt {w0 W : World} {s room root f c : Nat} {qs : Pairs} (h : TrM w0 s room root qs f c W) : Srt qs := by
  obtain ⟨N, D, h1, h2, _⟩ := h
  exact h2.srt
theorem TrM.empty {w0 W : World} {s room root f c : Nat} (h : TrM w0 s room root [] f c W) : root = 0 := by
  obtain ⟨N, D, h1, h2, _⟩ := h
  exact h2.empty

theorem TrM.slt {w0 W : World} {s room root f c : Nat} {qs : Pairs} (h : TrM w0 s room root qs f c W) : s < W.heap.size := by
  obtain ⟨N, D, h1, _⟩ := h
  exact h1.lt s h1.ds

/-- Behind calls that add nodes. -/
theorem trm_add {w0 W W' : World} {s room f c r : Nat} {qs : Pairs} {N' : List Nd} {D : Nat → Prop} (h : AddTo W s room D N' W') (hD : ∀ k, D k → w0.heap.size ≤ k) (hs : D s) (hk : KeptIn (· < w0.heap.size) w0 W) (ht : TrI N' r qs f) (hc : N'.length ≤ c) (hr : N'.length ≤ min room 511) : TrM w0 s room r qs f c W' := by
  obtain ⟨D', h1, h2, h3⟩ := h
  have hz := hk.size
  refine ⟨N', D', h1, ht, hc, hr, fun k hk' => ?_, hk.trans (h3.mono fun k hk' => ⟨by omega, ?_⟩)⟩
  · rcases h2 k hk' with h | h
    · exact hD k h
    · omega
  · have := hD s hs
    omega
/-- What such a call leaves. -/
abbrev Fr8 (s : Nat) (W W' : World) : Prop := KeptIn (fun k => k < W.heap.size ∧ k ≠ s) W W'
theorem fr8_of {W W' : World} {s : Nat} (h : KeptIn (· < W.heap.size) W W') : Fr8 s W W' := h.mono fun _ hk => hk.1
theorem fr8_trans {s : Nat} {a b c : World} (h : Fr8 s a b) (k : Fr8 s b c) : Fr8 s a c := h.trans (k.mono fun j hj => ⟨Nat.lt_of_lt_of_le hj.1 h.size, hj.2⟩)

def PutR (w0 : World) (s room k v f c : Nat) (qs : Pairs) (W : World) (e : Ending) (w' : World) : Prop :=
  ∃ r : Nat, e = .returned (.tuple #[.int .i64 (r : Int), .int .i64 0]) ∧ TrM w0 s room r (chg [(k, v)] k qs) (f + 1) (c + 5) w' ∧ Fr8 s W w'
theorem tmPut {w0 W : World} {s room root k v f c : Nat} {qs : Pairs} (h : TrM w0 s room root qs f c W) (hc : c + 5 < min room 511) (hf : 8 ≤ f) (hf2 : f < 127) (hk : k < 18446744073709551616) (hv : v < 18446744073709551616) :
    Calls Try.prog 30 #[pgV s, .int .i64 (root : Int), .int .u64 (k : Int), .int .u64 (v : Int)] W (PutR w0 s room k v f c qs W) := by
  obtain ⟨N, D, h1, h2, h3, h4, h5, h6⟩ := h
  obtain ⟨ws, hw, hl, hp⟩ := h2.put (v := v) h1.len (c := min room 511) (by omega) hf hf2 (show k ≤ topH by unfold topH; omega)
  refine (trPut h1 root k v hk hv ws hw (by omega) h4).mono ?_
  intro e w' hR
  cases hM : putM (min room 511) ws (k, v) N with
  | mk o N' =>
    rw [hM] at hR
    obtain ⟨⟨p, er, rfl, hm⟩, ha⟩ := hR
    replace ha : AddTo W s room D N' w' := ha
    obtain ⟨q1, q2, q3, q4⟩ := hp o N' hM
    cases o with
    | none => have := q3 rfl; omega
    | some r =>
      obtain ⟨rfl, rfl⟩ := hm
      refine ⟨p, rfl, trm_add ha h5 h1.ds h6 (q4 p rfl) (by omega) (by omega), ?_⟩
      obtain ⟨D', a1, a2, a3⟩ := ha
      exact a3


theorem tmCheck {w0 W : World} {s room root f c : Nat} {qs : Pairs} (h : TrM w0 s room root qs f c W) :
    Calls Try.prog 31 #[pgV s, .int .i64 (root : Int)] W fun e w' => e = .returned (.int .i64 0) ∧ KeptIn (· < W.heap.size) W w' := by
  obtain ⟨N, D, h1, ⟨l, g, t1, t2, t3, t4⟩, h3, h4, h5, h6⟩ := h
  exact trCheck h1.len h1 t1 t2

/-- A Shelf that is new. -/
theorem tm_new (w : World) (room : Nat) (hr : room ≤ 1000000) (W : World) (hW : W = w.alloc (.cells #[.slice none 0 0, .int .i64 (room : Int)] 30)) : IsSh W w.heap.size room [] (fun k => k = w.heap.size) ∧ TrM w w.heap.size room 0 [] 8 0 W := by
  have h1 : IsSh W w.heap.size room [] (fun k => k = w.heap.size) := ⟨rfl, fun k hk => by subst hk; rw [hW]; simp, by simp, hr, fun i h => by simp at h, none, 0, by rw [hW]; exact heap_alloc_new w _, fun _ => ⟨rfl, rfl⟩, fun h => by simp at h⟩
  exact ⟨h1, [], _, h1, TrI.zero, by simp, by simp, fun k hk => Nat.le_of_eq hk.symm, by rw [hW]; exact (KeptIn.refl _ w).alloc (fun _ h => h) _⟩

end Go.Proofs.Ytdbohcdjamhdjaa
