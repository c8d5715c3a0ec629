/- A frame for calls: the blocks of a set X stand as they stood. Of no program. -/
import Derived.WalkKit
import Derived.WalkSmall
import Derived.Lib.FrozenHead
set_option linter.unusedVariables false
namespace Go.Proofs.YtlldmebjgidbaaaDoor
open Go.RowKit

/-- The blocks of X stand as they stood; nothing is printed, no block goes. -/
structure KeptIn (X : Nat → Prop) (w w' : World) : Prop where
  os : w'.os = w.os
  tape : w'.tape = w.tape
  output : w'.output = w.output
  size : w.heap.size ≤ w'.heap.size
  block : ∀ k, X k → w'.heap[k]? = w.heap[k]?

theorem KeptIn.refl (X : Nat → Prop) (w : World) : KeptIn X w w := ⟨rfl, rfl, rfl, Nat.le_refl _, fun _ _ => rfl⟩
theorem KeptIn.trans {X : Nat → Prop} {a b c : World} (h : KeptIn X a b) (k : KeptIn X b c) : KeptIn X a c :=
  ⟨k.os.trans h.os, k.tape.trans h.tape, k.output.trans h.output, Nat.le_trans h.size k.size, fun i hi => (k.block i hi).trans (h.block i hi)⟩
theorem KeptIn.mono {X Y : Nat → Prop} {a b : World} (h : KeptIn X a b) (hY : ∀ k, Y k → X k) : KeptIn Y a b :=
  ⟨h.os, h.tape, h.output, h.size, fun k hk => h.block k (hY k hk)⟩
theorem KeptIn.of_below {X : Nat → Prop} {B : Nat} {a b : World} (h : Below B a b) (hX : ∀ k, X k → k < B) : KeptIn X a b :=
  ⟨h.os, h.tape, h.output, h.size, fun k hk => h.block k (hX k hk)⟩
theorem KeptIn.below {B : Nat} {a b : World} (h : KeptIn (· < B) a b) : Below B a b := ⟨h.os, h.tape, h.output, h.size, h.block⟩
theorem KeptIn.drewN {X : Nat → Prop} {a b : World} (h : KeptIn X a b) (n : Nat) : KeptIn X a (b.drewN n) :=
  ⟨h.os, h.tape, h.output, h.size, h.block⟩
theorem KeptIn.drew {X : Nat → Prop} {a b : World} (h : KeptIn X a b) : KeptIn X a b.drew := ⟨h.os, h.tape, h.output, h.size, h.block⟩
theorem KeptIn.setCell {X : Nat → Prop} {a b : World} (h : KeptIn X a b) {p : Addr} (hp : ¬ X p.block) (v : Value) : KeptIn X a (b.setCell p v) :=
  h.trans ⟨rfl, rfl, rfl, by simp [World.setCell], fun k hk => Below.heap_setCell _ _ _ _ (fun e => hp (e ▸ hk))⟩
theorem KeptIn.alloc {X : Nat → Prop} {a b : World} (h : KeptIn X a b) (hX : ∀ k, X k → k < a.heap.size) (o : Obj) : KeptIn X a (b.alloc o) :=
  h.trans ⟨rfl, rfl, rfl, by simp, fun k hk => Lib.alloc_old b o k (Nat.lt_of_lt_of_le (hX k hk) h.size)⟩
theorem KeptIn.grown {X : Nat → Prop} {a b c : World} {row : Option Nat} (h : KeptIn X a b) (hX : ∀ k, X k → k < a.heap.size) (hg : b.grownBy c row) (hr : ∀ g, row = some g → ¬ X g) : KeptIn X a c :=
  h.trans ⟨hg.os, hg.tape, hg.output, hg.size, fun k hk => hg.block k (Nat.lt_of_lt_of_le (hX k hk) h.size) (fun e => hr k e.symm hk)⟩
theorem KeptIn.freeze {X : Nat → Prop} {a b : World} (h : KeptIn X a b) {p : Addr} (hp : ¬ X p.block) (n : Nat) : KeptIn X a (b.freeze p n) := by
  refine h.trans ?_
  unfold World.freeze
  split
  · exact .refl X b
  · exact ⟨rfl, rfl, rfl, by simp, fun k hk => by
      simp only [Array.getElem?_modify]
      rw [if_neg]
      rintro rfl
      exact hp hk⟩
theorem KeptIn.lt {X : Nat → Prop} {a b : World} (h : KeptIn X a b) (hX : ∀ k, X k → k < a.heap.size) : ∀ k, X k → k < b.heap.size :=
  fun k hk => Nat.lt_of_lt_of_le (hX k hk) h.size

/-- What a cell holds, in whatever world. -/
def cellOf (w : World) (a : Addr) : Value := (w.cell? a).getD (.pointer none)
theorem cellOf_eq {w : World} {a : Addr} {v : Value} (h : w.cell? a = some v) : w.cell? a = some (cellOf w a) := by rw [cellOf, h]; rfl

end Go.Proofs.YtlldmebjgidbaaaDoor
