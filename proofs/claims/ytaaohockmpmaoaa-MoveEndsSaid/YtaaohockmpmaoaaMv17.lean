/- Chunks on their way, by their six numbers; in a box; compared; what a phase leads to. -/
import Derived.Test.YtaaohockmpmaoaaKept
import Derived.Test.YtaaohockmpmaoaaChecked
import Derived.WalkSpells
import Derived.WalkLawsBesides
import Derived.RegionTactic
import Derived.Outline
import Derived.OwnWalk
import Derived.OpenShut
import Derived.Deep.QuietTactic
import Derived.BigRegion
import Derived.Lib.Hide
import Derived.BigQuiet
import Derived.Deep.RegionHeld3
import Derived.LoopTactic
import Derived.Laws.StructEq
import Derived.Tactics
set_option linter.unusedVariables false
namespace Go.Proofs.Ytaaohockmpmaoaa
open Go.RowKit

/-- A spot. -/
structure Sp where
  ti : Int
  sl : Int
  deriving DecidableEq
def spV (x : Sp) : Value := .agg #[.int .i64 x.ti, .int .i64 x.sl]
/-- A chunk on its way. -/
structure Mv where
  ch : Int
  fr : Sp
  to : Sp
  ph : Int
  deriving DecidableEq
def mvV (x : Mv) : Value := .agg #[.int .i64 x.ch, .int .i64 x.fr.ti, .int .i64 x.fr.sl, .int .i64 x.to.ti, .int .i64 x.to.sl, .int .i64 x.ph]
def mv0 : Mv := ⟨0, ⟨0, 0⟩, ⟨0, 0⟩, 0⟩

def CanS (x : Sp) : Prop := (x.ti = 0 ∨ x.ti = 1) ∧ 0 ≤ x.sl ∧ x.sl < 256
instance (x : Sp) : Decidable (CanS x) := by unfold CanS; infer_instance
def CanM (ch : Int) (a b : Sp) : Prop := 1 ≤ ch ∧ ch ≤ 1023 ∧ CanS a ∧ CanS b ∧ a.ti ≠ b.ti
instance (ch : Int) (a b : Sp) : Decidable (CanM ch a b) := by unfold CanM; infer_instance
/-- How many steps; the next phase; the phase once it was written. -/
def stp (p : Int) : Int := if 1 ≤ p ∧ p ≤ 3 then 4 - p else 0
def nxt (p : Int) : Int := if 1 ≤ p ∧ p ≤ 3 then p + 1 else p
def stl (p : Int) : Int := if 1 ≤ p ∧ p ≤ 3 then 1 else p
def bsy (p : Int) : Bool := decide (0 < stp p)
theorem bsy_iff (p : Int) : bsy p = true ↔ 1 ≤ p ∧ p ≤ 3 := by
  unfold bsy stp
  rw [decide_eq_true_iff]
  split <;> omega
def Mv.next (x : Mv) : Mv := ⟨x.ch, x.fr, x.to, nxt x.ph⟩
def Mv.stale (x : Mv) : Mv := ⟨x.ch, x.fr, x.to, stl x.ph⟩
/-- What New answers. -/
def newM (ch : Int) (a b : Sp) : Mv := if CanM ch a b then ⟨ch, a, b, 1⟩ else mv0
def newE (ch : Int) (a b : Sp) : Int := if CanM ch a b then 0 else 1

/-- Boxed ones. -/
def BoxM (y : Nat) (x : Mv) (W : World) : Prop := W.heap[y]? = some (.cells #[.int .i64 x.ch, .int .i64 x.fr.ti, .int .i64 x.fr.sl, .int .i64 x.to.ti, .int .i64 x.to.sl, .int .i64 x.ph] 25 (0, 0))
def BoxS (y : Nat) (x : Sp) (W : World) : Prop := W.heap[y]? = some (.cells #[.int .i64 x.ti, .int .i64 x.sl] 23 (0, 0))
theorem keptNew (w : World) (o : Obj) : KeptIn (· < w.heap.size) w (w.alloc o) := (KeptIn.refl _ w).alloc (fun _ h => h) _
theorem KeptIn.onM {a b c : World} (h : KeptIn (· < a.heap.size) a b) (k : KeptIn (· < b.heap.size) b c) : KeptIn (· < a.heap.size) a c := h.trans (k.mono fun _ hk => Nat.lt_of_lt_of_le hk h.size)
/-- The cells of a box. -/
structure CellsM (W : World) (y : Nat) (x : Mv) : Prop where
  c0 : W.cell? ⟨y, 0, none⟩ = some (.int .i64 x.ch)
  c1 : W.cell? ⟨y, 1, none⟩ = some (.int .i64 x.fr.ti)
  c2 : W.cell? ⟨y, 2, none⟩ = some (.int .i64 x.fr.sl)
  c3 : W.cell? ⟨y, 3, none⟩ = some (.int .i64 x.to.ti)
  c4 : W.cell? ⟨y, 4, none⟩ = some (.int .i64 x.to.sl)
  c5 : W.cell? ⟨y, 5, none⟩ = some (.int .i64 x.ph)
section
variable {y : Nat} {x : Mv} {s : Sp} {W W' : World}
theorem BoxM.at (h : BoxM y x W) : CellsM W y x :=
  ⟨(cell_of_row _ _ 0 _ _ _ h).trans rfl, (cell_of_row _ _ 1 _ _ _ h).trans rfl, (cell_of_row _ _ 2 _ _ _ h).trans rfl, (cell_of_row _ _ 3 _ _ _ h).trans rfl, (cell_of_row _ _ 4 _ _ _ h).trans rfl, (cell_of_row _ _ 5 _ _ _ h).trans rfl⟩
theorem BoxM.fz (h : BoxM y x W) (i : Nat) : W.frozen? ⟨y, i, none⟩ = false := by simp [World.frozen?, show W.heap[y]? = _ from h]
theorem BoxM.lt (h : BoxM y x W) : y < W.heap.size := (Array.getElem?_eq_some_iff.1 h).1
theorem BoxM.old (h : BoxM y x W) (hk : KeptIn (· < W.heap.size) W W') : BoxM y x W' := (hk.block y h.lt).trans h
theorem BoxM.new (w : World) (x : Mv) : BoxM w.heap.size x (w.alloc (.cells #[.int .i64 x.ch, .int .i64 x.fr.ti, .int .i64 x.fr.sl, .int .i64 x.to.ti, .int .i64 x.to.sl, .int .i64 x.ph] 25)) := heap_alloc_new w _
theorem BoxM.set5 (h : BoxM y x W) (p : Int) : BoxM y ⟨x.ch, x.fr, x.to, p⟩ (W.setCell ⟨y, 5, none⟩ (.int .i64 p)) := (heap_setCell_same _ _ _ _ _ _ h).trans rfl
theorem BoxS.c0 (h : BoxS y s W) : W.cell? ⟨y, 0, none⟩ = some (.int .i64 s.ti) := (cell_of_row _ _ 0 _ _ _ h).trans rfl
theorem BoxS.c1 (h : BoxS y s W) : W.cell? ⟨y, 1, none⟩ = some (.int .i64 s.sl) := (cell_of_row _ _ 1 _ _ _ h).trans rfl
theorem BoxS.lt (h : BoxS y s W) : y < W.heap.size := (Array.getElem?_eq_some_iff.1 h).1
theorem BoxS.old (h : BoxS y s W) (hk : KeptIn (· < W.heap.size) W W') : BoxS y s W' := (hk.block y h.lt).trans h
theorem BoxS.new (w : World) (s : Sp) : BoxS w.heap.size s (w.alloc (.cells #[.int .i64 s.ti, .int .i64 s.sl] 23)) := heap_alloc_new w _
end
/-- One is stored to a box. -/
def st17 (V : World) (y : Nat) (x : Mv) : World := (((((V.setCell ⟨y, 0, none⟩ (.int .i64 x.ch)).setCell ⟨y, 1, none⟩ (.int .i64 x.fr.ti)).setCell ⟨y, 2, none⟩ (.int .i64 x.fr.sl)).setCell ⟨y, 3, none⟩ (.int .i64 x.to.ti)).setCell ⟨y, 4, none⟩ (.int .i64 x.to.sl)).setCell ⟨y, 5, none⟩ (.int .i64 x.ph)
theorem BoxM.store {y : Nat} {x0 : Mv} {V : World} (h : BoxM y x0 V) (x : Mv) : BoxM y x (st17 V y x) := by
  have h1 : (V.setCell ⟨y, 0, none⟩ (.int .i64 x.ch)).heap[y]? = _ := heap_setCell_same _ _ _ _ _ _ h
  have h2 : ((V.setCell ⟨y, 0, none⟩ (.int .i64 x.ch)).setCell ⟨y, 1, none⟩ (.int .i64 x.fr.ti)).heap[y]? = _ := heap_setCell_same _ _ _ _ _ _ h1
  have h3 : (((V.setCell ⟨y, 0, none⟩ (.int .i64 x.ch)).setCell ⟨y, 1, none⟩ (.int .i64 x.fr.ti)).setCell ⟨y, 2, none⟩ (.int .i64 x.fr.sl)).heap[y]? = _ := heap_setCell_same _ _ _ _ _ _ h2
  have h4 : ((((V.setCell ⟨y, 0, none⟩ (.int .i64 x.ch)).setCell ⟨y, 1, none⟩ (.int .i64 x.fr.ti)).setCell ⟨y, 2, none⟩ (.int .i64 x.fr.sl)).setCell ⟨y, 3, none⟩ (.int .i64 x.to.ti)).heap[y]? = _ := heap_setCell_same _ _ _ _ _ _ h3
  have h5 : (((((V.setCell ⟨y, 0, none⟩ (.int .i64 x.ch)).setCell ⟨y, 1, none⟩ (.int .i64 x.fr.ti)).setCell ⟨y, 2, none⟩ (.int .i64 x.fr.sl)).setCell ⟨y, 3, none⟩ (.int .i64 x.to.ti)).setCell ⟨y, 4, none⟩ (.int .i64 x.to.sl)).heap[y]? = _ := heap_setCell_same _ _ _ _ _ _ h4
  have h6 : (st17 V y x).heap[y]? = _ := heap_setCell_same _ _ _ _ _ _ h5
  exact h6.trans rfl
theorem KeptIn.st17 {X : Nat → Prop} {a b : World} (h : KeptIn X a b) {y : Nat} (hy : ¬ X y) (x : Mv) : KeptIn X a (st17 b y x) :=
  (((((h.setCell (p := ⟨y, 0, none⟩) hy _).setCell (p := ⟨y, 1, none⟩) hy _).setCell (p := ⟨y, 2, none⟩) hy _).setCell (p := ⟨y, 3, none⟩) hy _).setCell (p := ⟨y, 4, none⟩) hy _).setCell (p := ⟨y, 5, none⟩) hy _
theorem results_mv {fn : Func} {p : Tmp} (h : fn.results = #[.cell p 25]) (tmps : Array Value) (w : World) (y : Nat) (x : Mv)
    (hp : tmps.getD p undef = .pointer (some ⟨y, 0, none⟩)) (hb : BoxM y x w) : (results fn tmps).run Try.prog w = .ok (mvV x) w := by
  have hr := run_loadVar_row (P := Try.prog) w y 25 25 _ _ _ hb Try.underlying25 rfl (by kernel_rfl)
  have hp' : tmps[p]?.getD undef = .pointer (some ⟨y, 0, none⟩) := by simpa using hp
  simp [results, h, hp', asAddr, hr, mvV]
theorem results_mv_tmp {fn : Func} {p u : Tmp} (h : fn.results = #[.cell p 25, .tmp u]) (tmps : Array Value) (w : World) (y : Nat) (x : Mv)
    (hp : tmps.getD p undef = .pointer (some ⟨y, 0, none⟩)) (hb : BoxM y x w) : (results fn tmps).run Try.prog w = .ok (.tuple #[mvV x, tmps.getD u undef]) w := by
  have hr := run_loadVar_row (P := Try.prog) w y 25 25 _ _ _ hb Try.underlying25 rfl (by kernel_rfl)
  rw [results_cell_tmp h, hp]
  simp [asAddr, hr, mvV]

/-- '==' of spots. -/
theorem eqInS17 (d : Nat) (a1 a2 b1 b2 : Int) (w : World) : (Op.equalIn (d + 2) 23 (.agg #[.int .i64 a1, .int .i64 a2]) (.agg #[.int .i64 b1, .int .i64 b2])).run Try.prog w = .ok (decide (a1 = b1) && decide (a2 = b2)) w := by
  have u3 := Try.underlying3
  have hS : Try.prog.underlying 23 = some (.struct (Try.prog.fieldsOf 23)) := by kernel_rfl
  have hp : Try.prog.stoodInHeld 23 = false := by kernel_rfl
  rw [run_equalIn_agg w (d + 1) 23 _ _ hS hp]
  simp only [Program.fieldsOf, Try.underlying23]
  go_simp
  by_cases h1 : a1 = b1 <;> by_cases h2 : a2 = b2 <;> simp [h1, h2]
theorem eqS17 (a b : Sp) (w : World) : (binOp .eql 23 (spV a) (spV b)).run Try.prog w = .ok (.bool (decide (a = b))) w := by
  have hd : decide (a = b) = (decide (a.ti = b.ti) && decide (a.sl = b.sl)) := by
    rw [← Bool.decide_and]
    exact decide_eq_decide.2 (by cases a; cases b; simp)
  rw [hd]
  simp only [spV]
  rw [run_eql_struct, show (10000 : Nat) = 9998 + 2 from rfl, eqInS17]
  rfl
theorem neqS17 (a b : Sp) (w : World) : (binOp .neq 23 (spV a) (spV b)).run Try.prog w = .ok (.bool (!decide (a = b))) w := by
  have hd : decide (a = b) = (decide (a.ti = b.ti) && decide (a.sl = b.sl)) := by
    rw [← Bool.decide_and]
    exact decide_eq_decide.2 (by cases a; cases b; simp)
  rw [hd]
  simp only [spV]
  rw [run_neq_struct, show (10000 : Nat) = 9998 + 2 from rfl, eqInS17]
  rfl
/-- '==' of them. -/
theorem eqInM17 (a b : Mv) (w : World) : (Op.equalIn 10000 25 (mvV a) (mvV b)).run Try.prog w = .ok (decide (a = b)) w := by
  have u3 := Try.underlying3
  have hS : Try.prog.underlying 25 = some (.struct (Try.prog.fieldsOf 25)) := by kernel_rfl
  have hp : Try.prog.stoodInHeld 25 = false := by kernel_rfl
  obtain ⟨a0, ⟨a1, a2⟩, ⟨a3, a4⟩, a5⟩ := a
  obtain ⟨b0, ⟨b1, b2⟩, ⟨b3, b4⟩, b5⟩ := b
  have hd : decide ((⟨a0, ⟨a1, a2⟩, ⟨a3, a4⟩, a5⟩ : Mv) = ⟨b0, ⟨b1, b2⟩, ⟨b3, b4⟩, b5⟩) = (decide (a0 = b0) && ((decide (a1 = b1) && decide (a2 = b2)) && ((decide (a3 = b3) && decide (a4 = b4)) && decide (a5 = b5)))) := by
    simp only [← Bool.decide_and]
    exact decide_eq_decide.2 (by simp)
  rw [hd]
  simp only [mvV]
  rw [show (10000 : Nat) = 9999 + 1 from rfl, run_equalIn_agg w 9999 25 _ _ hS hp]
  simp only [Program.fieldsOf, Try.underlying25]
  have hin := fun w => eqInS17 9997 a1 a2 b1 b2 w
  have hin2 := fun w => eqInS17 9997 a3 a4 b3 b4 w
  simp only [show (9997 : Nat) + 2 = 9999 from rfl] at hin hin2
  simp only [Op.eqFields]
  go_simp
  by_cases h1 : a0 = b0 <;> by_cases h2 : a1 = b1 <;> by_cases h3 : a2 = b2 <;> by_cases h4 : a3 = b3 <;> by_cases h5 : a4 = b4 <;> by_cases h6 : a5 = b5 <;> simp [h1, h2, h3, h4, h5, h6]
theorem eqM17 (a b : Mv) (w : World) : (binOp .eql 25 (mvV a) (mvV b)).run Try.prog w = .ok (.bool (decide (a = b))) w := by
  have h := eqInM17 a b w
  simp only [mvV] at h ⊢
  rw [run_eql_struct, h]
  rfl
theorem neqM17 (a b : Mv) (w : World) : (binOp .neq 25 (mvV a) (mvV b)).run Try.prog w = .ok (.bool (!decide (a = b))) w := by
  have h := eqInM17 a b w
  simp only [mvV] at h ⊢
  rw [run_neq_struct, h]
  rfl

end Go.Proofs.Ytaaohockmpmaoaa
