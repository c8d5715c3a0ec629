/- Owners: '==' of owners. -/
import Derived.Test.YtononiedecpllaaOr13
import Derived.Laws.StructEq
import Derived.Tactics
set_option linter.unusedVariables false
namespace Go.Proofs.Ytononiedecpllaa
open Go.RowKit

theorem eqOw (a b : Ow) (w : World) : (binOp .eql 31 (ownV a) (ownV b)).run Try.prog w = .ok (.bool (decide (a = b))) w := by
  have u3 := Try.underlying3
  have hS : Try.prog.underlying 31 = some (.struct (Try.prog.fieldsOf 31)) := by kernel_rfl
  have hp : Try.prog.stoodInHeld 31 = false := by kernel_rfl
  have hd : decide (a = b) = (decide (a.vol = b.vol) && (decide (a.bir = b.bir) && decide (a.pos = b.pos))) := by
    rw [← Bool.decide_and, ← Bool.decide_and]
    exact decide_eq_decide.2 (by cases a; cases b; simp)
  rw [hd]
  simp only [ownV]
  rw [run_eql_struct, show (10000 : Nat) = 9999 + 1 from rfl, run_equalIn_agg w 9999 31 _ _ hS hp]
  simp only [Program.fieldsOf, Try.underlying31]
  go_simp
  by_cases h1 : a.vol = b.vol <;> by_cases h2 : a.bir = b.bir <;> by_cases h3 : a.pos = b.pos <;> simp [h1, h2, h3]

theorem eqInOw (a b : Ow) (w : World) : (Op.equalIn 10000 31 (ownV a) (ownV b)).run Try.prog w = .ok (decide (a = b)) w := by
  have h := eqOw a b w
  simp only [ownV] at h ⊢
  rw [run_eql_struct] at h
  cases hq : (Op.equalIn 10000 31 (.agg #[.int .i64 a.vol, .int .i64 a.bir, .int .i64 a.pos]) (.agg #[.int .i64 b.vol, .int .i64 b.bir, .int .i64 b.pos])).run Try.prog w with
  | ok x w' =>
    rw [hq] at h
    simp only [Result.andThen_ok, Result.ok.injEq, Value.bool.injEq] at h
    rw [h.1, h.2]
  | _ => rw [hq] at h; simp [Result.andThen] at h
theorem neqOw (a b : Ow) (w : World) : (binOp .neq 31 (ownV a) (ownV b)).run Try.prog w = .ok (.bool (!decide (a = b))) w := by
  have h := eqInOw a b w
  simp only [ownV] at h ⊢
  rw [run_neq_struct, h]
  rfl

/-- A chunk and an owner of it. -/
structure On where
  ch : Int
  ow : Ow
  deriving DecidableEq
def onV (x : On) : Value := .agg #[.int .i64 x.ch, .int .i64 x.ow.vol, .int .i64 x.ow.bir, .int .i64 x.ow.pos]

end Go.Proofs.Ytononiedecpllaa
