/- Two Writers side by side: what is done to one leaves the other as it is. -/
import Derived.Test.YtifealfkcfcbeaaDoorAw1
set_option linter.unusedVariables false
namespace Go.Proofs.YtifealfkcfcbeaaDoor
open Go.RowKit

/-- A Writer's own blocks: where they stand and no other set claims them, the Writer stands. -/
theorem Holds.split {X : Nat → Prop} {a : Nat} {c : List UInt8} {w : World} (h : Holds X a c w) :
    ∃ F : Nat → Prop, (∀ k, F k → ¬ X k ∧ k < w.heap.size) ∧ ∀ (Y : Nat → Prop) (w' : World), (∀ k, F k → ¬ Y k) → (∀ k, F k → w'.heap[k]? = w.heap[k]?) → Holds Y a c w' := by
  obtain ⟨l, z, h, e⟩ := h
  have hlt := h.lt
  obtain ⟨hXa, ⟨h1, h2⟩ | ⟨b, h1, h2⟩⟩ := h
  · refine ⟨fun k => k = a, ?_, fun Y w' hY hk => ⟨l, z, ⟨hY a rfl, .inl ⟨h1, (hk a rfl).trans h2⟩⟩, e⟩⟩
    rintro k rfl
    exact ⟨hXa, hlt⟩
  · have hbl := h2.lt
    obtain ⟨hX, v, hv, hg⟩ := h2
    have hgl : ∀ g, v.ownBlock = some g → g < w.heap.size := by
      obtain ⟨p, _, _, hown, _⟩ := hv
      exact fun g eg => (hown.lt g eg).2
    refine ⟨fun k => k = a ∨ k = b ∨ v.ownBlock = some k, ?_, fun Y w' hY hk => ?_⟩
    · rintro k (rfl | rfl | h)
      · exact ⟨hXa, hlt⟩
      · exact ⟨hX, hbl⟩
      · exact ⟨hg k h, hgl k h⟩
    · refine ⟨l, z, ⟨hY a (.inl rfl), .inr ⟨b, (hk a (.inl rfl)).trans h1, hY b (.inr (.inl rfl)), v, ?_, fun g eg => hY g (.inr (.inr eg))⟩⟩, e⟩
      obtain ⟨p, hp, hbk, hown, hne, hnil⟩ := hv
      refine ⟨p, hp, (hk b (.inr (.inl rfl))).trans hbk, ⟨hown.1, ?_⟩, hne, hnil⟩
      rcases hown.2 with k1 | ⟨g, cap, cur, fz, rfl, k1, k2, k3⟩
      · exact .inl k1
      · exact .inr ⟨g, cap, cur, fz, rfl, k1, (hk g (.inr (.inr rfl))).trans k2, k3⟩

/-- Two Writers that own no block in common, and none of X. -/
def Pair (X : Nat → Prop) (x y : Nat) (cx cy : List UInt8) (w : World) : Prop :=
  ∃ F : Nat → Prop, (∀ k, F k → ¬ X k ∧ k < w.heap.size) ∧ Holds (fun k => X k ∨ F k) x cx w ∧
    ∀ (Y : Nat → Prop) (w' : World), (∀ k, F k → ¬ Y k) → (∀ k, F k → w'.heap[k]? = w.heap[k]?) → Holds Y y cy w'

theorem Pair.swap {X : Nat → Prop} {x y : Nat} {cx cy : List UInt8} {w : World} (h : Pair X x y cx cy w) : Pair X y x cy cx w := by
  obtain ⟨F, hF, hx, hy⟩ := h
  obtain ⟨G, hG, hx'⟩ := hx.split
  refine ⟨G, fun k hk => ⟨fun e => (hG k hk).1 (.inl e), (hG k hk).2⟩, hy _ w ?_ (fun _ _ => rfl), hx'⟩
  rintro k hk (e | e)
  · exact (hF k hk).1 e
  · exact (hG k e).1 (.inr hk)

theorem Pair.step {X : Nat → Prop} {x y : Nat} {cx cy : List UInt8} {w : World} (h : Pair X x y cx cy w) (hX : ∀ k, X k → k < w.heap.size) :
    ∃ Z : Nat → Prop, Holds Z x cx w ∧ (∀ k, Z k → k < w.heap.size) ∧ ∀ c' w', Holds Z x c' w' → KeptIn Z w w' → Pair X x y c' cy w' ∧ KeptIn X w w' := by
  obtain ⟨F, hF, hx, hy⟩ := h
  refine ⟨_, hx, fun k hk => hk.elim (hX k) (fun e => (hF k e).2), fun c' w' h1 h2 => ⟨⟨F, fun k hk => ⟨(hF k hk).1, Nat.lt_of_lt_of_le (hF k hk).2 h2.size⟩, h1, fun Y w'' hY hk => hy Y w'' hY fun k hk' => (hk k hk').trans (h2.block k (.inr hk'))⟩, h2.mono (fun _ => .inl)⟩⟩

theorem pairPut (X : Nat → Prop) (x y : Nat) (cx cy : List UInt8) (n : Nat) (size : Int) (w : World) (h : Pair X x y cx cy w) (hX : ∀ k, X k → k < w.heap.size) (hn : n < 18446744073709551616) (hz : cx.length + 8 ≤ 2147483647) :
    Calls Tryd.prog 8 #[.pointer (some ⟨x, 0, none⟩), .int .u64 n, .int .i64 size] w fun e w' => e = .returned (.tuple #[]) ∧ Pair X x y (cx ++ bytesLE n (min (max size 1) 8).toNat) cy w' ∧ KeptIn X w w' := by
  obtain ⟨Z, h1, h2, h3⟩ := h.step hX
  exact (hPut Z x cx n size w h1 h2 hn hz).mono fun e w' ⟨he, k1, k2⟩ => ⟨he, h3 _ _ k1 k2⟩

theorem pairString (X : Nat → Prop) (x y : Nat) (cx cy : List UInt8) (w : World) (h : Pair X x y cx cy w) (hX : ∀ k, X k → k < w.heap.size) (hz : cx.length ≤ 2147483647) :
    Calls Tryd.prog 12 #[.pointer (some ⟨x, 0, none⟩)] w fun e w' => e = .returned (.string ⟨cx.toArray⟩) ∧ Pair X x y cx cy w' ∧ KeptIn X w w' := by
  obtain ⟨Z, h1, h2, h3⟩ := h.step hX
  exact (hString Z x cx w h1 h2 hz).mono fun e w' ⟨he, k1, k2⟩ => ⟨he, h3 _ _ k1 k2⟩

theorem pairLen (X : Nat → Prop) (x y : Nat) (cx cy : List UInt8) (w : World) (h : Pair X x y cx cy w) (hX : ∀ k, X k → k < w.heap.size) (hz : cx.length ≤ 2147483647) :
    Calls Tryd.prog 13 #[.pointer (some ⟨x, 0, none⟩)] w fun e w' => e = .returned (.int .i64 cx.length) ∧ Pair X x y cx cy w' ∧ KeptIn X w w' := by
  obtain ⟨Z, h1, h2, h3⟩ := h.step hX
  refine (hLen Z x cx w h1 hz).mono fun e w' ⟨he, n, hn⟩ => ⟨he, ?_⟩
  subst hn
  exact h3 cx _ (h1.old ((KeptIn.refl _ _).drewN n)) ((KeptIn.refl _ _).drewN n)

theorem Pair.fresh (X : Nat → Prop) (w : World) (hX : ∀ k, X k → k < w.heap.size) :
    Pair X w.heap.size (w.heap.size + 1) [] [] ((w.alloc (.cells #[.pointer none, .int .i64 0, .int .i64 0] 27)).alloc (.cells #[.pointer none, .int .i64 0, .int .i64 0] 27)) := by
  have h0 := Holds.fresh X w hX
  have hX1 : ∀ k, X k → k < (w.alloc (.cells #[.pointer none, .int .i64 0, .int .i64 0] 27)).heap.size := fun k h => Nat.lt_of_lt_of_le (hX k h) (by simp)
  have h1 := Holds.fresh X (w.alloc (.cells #[.pointer none, .int .i64 0, .int .i64 0] 27)) hX1
  have hsz : (w.alloc (.cells #[.pointer none, .int .i64 0, .int .i64 0] 27)).heap.size = w.heap.size + 1 := by simp
  rw [hsz] at h1
  obtain ⟨F, hF, hx⟩ := h0.split
  refine Pair.swap ⟨F, fun k hk => ⟨(hF k hk).1, Nat.lt_of_lt_of_le (hF k hk).2 (by simp)⟩, ?_, fun Y w' hY hk => hx Y w' hY fun k e => (hk k e).trans (Lib.alloc_old _ _ _ (hF k e).2)⟩
  have h2 := Holds.fresh (fun k => X k ∨ F k) (w.alloc (.cells #[.pointer none, .int .i64 0, .int .i64 0] 27)) (fun k h => h.elim (hX1 k) (fun e => (hF k e).2))
  rw [hsz] at h2
  exact h2

/-- What the first j numbers write. -/
def cat (zs : List Int) (k : Nat) : Nat → List UInt8
  | 0 => []
  | j + 1 => cat zs k j ++ bytesLE (zs.getD j 0).toNat k

theorem cat_length (zs : List Int) (k j : Nat) : (cat zs k j).length = j * k := by
  induction j with
  | zero => simp [cat]
  | succ j ih => rw [cat, List.length_append, ih, bytesLE_length, Nat.succ_mul]

/-- Whether the first j numbers write alike. -/
def alike (zs ys : List Int) (k j : Nat) : Bool := decide (cat zs k j = cat ys k j)

theorem alike_step (zs ys : List Int) (k j za ya : Nat) (hz : (zs.getD j 0).toNat = za) (hy : (ys.getD j 0).toNat = ya) :
    alike zs ys k (j + 1) = (alike zs ys k j && decide (za % 2 ^ (8 * k) = ya % 2 ^ (8 * k))) := by
  unfold alike
  rw [cat, cat, hz, hy, Bool.eq_iff_iff, Bool.and_eq_true, decide_eq_true_iff, decide_eq_true_iff, decide_eq_true_iff, ← bytesLE_eq]
  constructor
  · intro h
    exact List.append_inj h (by rw [cat_length, cat_length])
  · rintro ⟨h1, h2⟩
    rw [h1, h2]

end Go.Proofs.YtifealfkcfcbeaaDoor
