/- A region that draws its order, that only reads, and whose calls leave all old blocks as they were (they may lay blocks of their own): walked once. Of no program. -/
import Derived.Test.YtlldmebjgidbaaaDoorKept
import Derived.Deep.QuietTactic
import Derived.BigQuiet
set_option linter.unusedVariables false
namespace Go.Proofs.YtlldmebjgidbaaaDoor
open Go.RowKit

/-- A world in which all old blocks of w stand as they stood. -/
structure KW (w : World) where
  V : World
  hk : KeptIn (· < w.heap.size) w V

instance kwInh (w : World) : Inhabited (KW w) := ⟨⟨w, KeptIn.refl _ w⟩⟩

theorem wp_region_quiet_kept {P : Program} {id : Nat} {Q : Exit → Act → World → Prop} {a : Act} {w : World} {l : List Oper} (hm : P.follows .mixedOrders = true) (hB : Region.lexB .any l.toArray = true)
    (h : wpQuiet P l.toArray (fun w' => ∃ p : KW w, w' = p.V) (fun a' => ∀ w', (∃ p : KW w, w' = p.V) → Q .normal a' w') l a) : (Code.region id l.toArray true).wp P Q a w :=
  wp_region_quiet (C := fun w' => ∃ p : KW w, w' = p.V) hm hB ⟨⟨w.drew, (KeptIn.refl _ w).drew⟩, rfl⟩ (by simpa using h)

theorem Calls.kept_of {P : Program} {f : FuncId} {args : Array Value} {w : World} {p : KW w} {v : Value}
    (h : Calls P f args p.V fun e w' => e = .returned v ∧ KeptIn (· < p.V.heap.size) p.V w') : Calls P f args p.V fun e w'' => e = .returned v ∧ ∃ q : KW w, w'' = q.V :=
  h.mono fun _ _ ⟨he, hk⟩ => ⟨he, ⟨_, p.hk.trans (hk.mono fun _ h => Nat.lt_of_lt_of_le h p.hk.size)⟩, rfl⟩
theorem Calls.kept_same {P : Program} {f : FuncId} {args : Array Value} {w : World} {p : KW w} {v : Value}
    (h : Calls P f args p.V fun e w' => e = .returned v ∧ p.V = w') : Calls P f args p.V fun e w'' => e = .returned v ∧ ∃ q : KW w, w'' = q.V :=
  h.mono fun _ _ ⟨he, hk⟩ => ⟨he, p, hk.symm⟩

end Go.Proofs.YtlldmebjgidbaaaDoor
