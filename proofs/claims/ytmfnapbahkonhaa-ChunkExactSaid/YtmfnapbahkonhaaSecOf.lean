/- disc.sectorOf: the i-th sector of a string. -/
import Derived.Test.YtmfnapbahkonhaaSec
import Derived.WalkKit
import Derived.WalkSpells
import Derived.WalkLawsBesides
import Derived.RegionTactic
import Derived.BigRegion
import Derived.Outline
import Derived.Deep.RegionLaw
import Derived.Deep.MidRow
import Derived.Lib.Hide
set_option linter.unusedVariables false
namespace Go.Proofs.Ytmfnapbahkonhaa
open Go.RowKit

/-- The i-th sector of bytes. -/
def nth (l : List UInt8) (i : Nat) : List UInt8 := (l.drop (16 * i)).take 16

theorem nth_length (l : List UInt8) (i : Nat) (h : 16 * i + 16 ≤ l.length) : (nth l i).length = 16 := by simp [nth]; omega

/-- Block g is a variable that holds the sector l. -/
def SecAt (g : Nat) (l : List UInt8) (w : World) : Prop := l.length = 16 ∧ w.heap[g]? = some (.cells (Lib.byteCells l).toArray 74 (0, 0))

theorem secSize {l : List UInt8} (h : l.length = 16) : (Try.prog.info? 74).map (·.size) = some (Lib.byteCells l).toArray.size := by
  rw [List.size_toArray, Lib.byteCells_length, h]; kernel_rfl
theorem secOne (l : List UInt8) : (Lib.byteCells l).toArray.all (·.oneCell') = true := all_oneCell_toArray (Lib.byteCells_one _)

theorem run_alloc_sec (w : World) : (Instr.alloc 74 true (.tuple #[])).run Try.prog w = .ok (.pointer (some ⟨w.heap.size, 0, none⟩)) (w.alloc (.cells (Lib.byteCells (List.replicate 16 0)).toArray 74)) := by
  rw [show (Lib.byteCells (List.replicate 16 0)).toArray = #[.int .u8 0, .int .u8 0, .int .u8 0, .int .u8 0, .int .u8 0, .int .u8 0, .int .u8 0, .int .u8 0, .int .u8 0, .int .u8 0, .int .u8 0, .int .u8 0, .int .u8 0, .int .u8 0, .int .u8 0, .int .u8 0] from rfl]
  kernel_rfl

section
variable {ops : Array Oper} {rest : List Oper} {o : Oper} {a : Act} {w : World} {Q : Exit → Act → World → Prop}

/-- A sector's variable is laid. -/
theorem wpList_alloc_sec (hg : o.guard = none) (hop : o.op = Op.alloc 74)
    (h : ∀ w', SecAt w.heap.size (List.replicate 16 0) w' → KeptIn (· < w.heap.size) w w' → w'.heap.size = w.heap.size + 1 → wpList Try.prog ops Q rest (a.put o.dst (.pointer (some ⟨w.heap.size, 0, none⟩))) w') :
    wpList Try.prog ops Q (o :: rest) a w := by
  refine wpList_plain hg fun K hK => ?_
  have hrun := run_alloc_sec w
  unfold Oper.wp
  simp only [execOp, hop, Sem.run_bind, hrun, Result.andThen_ok, Sem.run_pure]
  exact hK _ _ (h _ ⟨by simp, heap_alloc_new w _⟩ ((KeptIn.refl _ _).alloc (fun _ h => h) _) (by simp))

/-- A sector is stored into a sector's variable. -/
theorem wpList_store_sec (hg : o.guard = none) (x y : Operand) (hop : o.op = .store 74 x y) (g : Nat) (l l' : List UInt8) (hx : a.eval x = .pointer (some ⟨g, 0, none⟩)) (hy : a.eval y = secV l) (hl : l.length = 16) (hb : SecAt g l' w)
    (h : ∀ w', SecAt g l w' → KeptIn (· ≠ g) w w' → w'.heap.size = w.heap.size → wpList Try.prog ops Q rest (a.put o.dst undef) w') :
    wpList Try.prog ops Q (o :: rest) a w := by
  refine wpList_store_row hg 74 x y hop g (Lib.byteCells l).toArray hx hy 74 _ hb.2 (secSize hl) (by simp [Lib.byteCells_length, hl, hb.1]) (secOne l) (h _ ⟨hl, setRow_heap _ _ _ _ _ _ hb.2⟩ ?_ (by simp))
  exact ⟨rfl, rfl, rfl, by simp, fun k hk => setRow_other _ _ _ _ hk⟩

/-- A sector's variable is read. -/
theorem wpList_load_sec (hg : o.guard = none) (x : Operand) (hop : o.op = .load 74 x) (g : Nat) (l : List UInt8) (hx : a.eval x = .pointer (some ⟨g, 0, none⟩)) (hb : SecAt g l w)
    (h : wpList Try.prog ops Q rest (a.put o.dst (secV l)) w) : wpList Try.prog ops Q (o :: rest) a w :=
  wpList_load_row hg 74 x hop g hx 74 _ _ _ hb.2 Try.underlying74 rfl (secSize hb.1) h

/-- A sector is read out of a row. -/
theorem wpList_load_nth (hg : o.guard = none) (x : Operand) (hop : o.op = .load 74 x) (g off : Nat) (l : List UInt8) (hx : a.eval x = .pointer (some ⟨g, off, none⟩)) (hl : l.length = 16) (hb : w.rangeAt g off (Lib.byteCells l))
    (h : wpList Try.prog ops Q rest (a.put o.dst (secV l)) w) : wpList Try.prog ops Q (o :: rest) a w :=
  wpList_load_mid hg 74 x hop g off hx (Lib.byteCells l) _ hb Try.underlying74 rfl (by have := secSize hl; rwa [List.size_toArray] at this) h

end

theorem SecAt.kept {X : Nat → Prop} {g : Nat} {l : List UInt8} {w w' : World} (h : SecAt g l w) (hk : KeptIn X w w') (hX : X g) : SecAt g l w' := ⟨h.1, (hk.block g hX).trans h.2⟩
theorem SecAt.lt {g : Nat} {l : List UInt8} {w : World} (h : SecAt g l w) : g < w.heap.size := (Array.getElem?_eq_some_iff.1 h.2).1

/-- What a function hands back whose result is a sector's variable. -/
theorem results_sec {fn : Func} {p : Tmp} (h : fn.results = #[.cell p 74]) (tmps : Array Value) (w : World) (g : Nat) (l : List UInt8) (hp : tmps.getD p undef = .pointer (some ⟨g, 0, none⟩)) (hb : SecAt g l w) :
    (results fn tmps).run Try.prog w = .ok (secV l) w :=
  results_cell_row h tmps w g 74 _ _ _ hp hb.2 Try.underlying74 rfl (secSize hb.1)

theorem run_copy_head (w : World) (ty : TypeId) (g dCap : Nat) (cur : Array Value) (t : TypeId) (s : ByteArray) (hg : w.heap[g]? = some (.cells cur t (0, 0))) (hc : cur.size = 16) (hs : 16 ≤ s.size) :
    (Builtin.copy_ #[84, 9] ty #[.slice (some ⟨g, 0, none⟩) 16 dCap, .string s]).run Try.prog w = .ok (goInt 16) (w.setRow g (Lib.byteCells (s.data.toList.take 16)).toArray) := by
  have hlen : (Lib.byteCells (s.data.toList.take 16)).length = 16 := by rw [Lib.byteCells_length, List.length_take, Array.length_toList]; exact Nat.min_eq_left hs
  have hst := run_storeCells_from (P := Try.prog) g t (Lib.byteCells (s.data.toList.take 16)) 0 cur w hg (by rw [hlen, hc]) (Lib.byteCells_one _)
  have hmin : Nat.min s.size 16 = 16 := Nat.min_eq_right hs
  have he : (s.extract 0 16).data.toList = s.data.toList.take 16 := by simp
  have hu : Try.prog.underlying 84 = some (.slice 5) := Try.underlying84
  have hi : (Try.prog.info? 5).map (·.size) = some 1 := by kernel_rfl
  cases hq : Try.prog.info? 5 with
  | none => simp [hq] at hi
  | some i =>
    simp [Builtin.copy_, run_underlying hu, Builtin.lenOf, Builtin.firstCells, sizeOf, typeInfo, hq, hmin]
    have e2 : (List.take 16 (List.map (fun b : UInt8 => Value.int IntKind.u8 (b.toNat : Int)) s.data.toList)) = Lib.byteCells (s.data.toList.take 16) := by rw [← List.map_take]; rfl
    rw [e2, hst]
    simp [Result.andThen]

/-- 'copy(dst, s)' into a sector, a string of at least as many bytes: as one step of a region that draws. -/
theorem step_copy_head {ops : Array Oper} {o : Oper} {a : Act} {w : World} {K : Act → World → Prop} {Q : Exit → Act → World → Prop} {E : Prop}
    (hg : o.guard = none) (d x : Operand) (hop : o.op = Op.call { callee := Callee.builtin Builtin.copy, args := #[d, x], argTypes := #[84, 9] })
    (g dCap : Nat) (hd : a.eval d = .slice (some ⟨g, 0, none⟩) 16 dCap) (s : ByteArray) (hx : a.eval x = .string s)
    (cur : Array Value) (t : TypeId) (hb : w.heap[g]? = some (.cells cur t (0, 0))) (hc : cur.size = 16) (hs : 16 ≤ s.size)
    (hK : K (a.put o.dst (goInt 16)) (w.setRow g (Lib.byteCells (s.data.toList.take 16)).toArray)) :
    if Region.wanted o (yielded ops a.tmps) = true then Oper.wp Try.prog o a w K Q else E := by
  have hw : Region.wanted o (yielded ops a.tmps) = true := by simp [Region.wanted, hg]
  rw [if_pos hw]
  have hrun := run_copy_head w o.type g dCap cur t s hb hc hs
  unfold Oper.wp
  simp [execOp, hop, resolve, invoke, builtin, hd, hx, hrun, Result.andThen]
  exact hK

set_option maxHeartbeats 1000000 in
set_option maxRecDepth 100000 in
theorem dSecOf (l : List UInt8) (i : Nat) (w : World) (hi : 16 * i + 16 ≤ l.length) (hl : l.length ≤ maxLen) :
    Calls Try.prog 32 #[.string ⟨l.toArray⟩, .int .i64 i] w fun e w' => e = .returned (secV (nth l i)) ∧ KeptIn (· < w.heap.size) w w' ∧ w.heap.size ≤ w'.heap.size := by
  unfold maxLen at hl
  obtain ⟨k, hk⟩ : ∃ k, k = 16 * i := ⟨_, rfl⟩
  have b1 : IntKind.i64.wrap ((i : Int) * 16) = (k : Int) := by rw [IntKind.wrap_i64]; omega
  have b2 : (k : Int) ≤ (l.length : Int) := by omega
  have b3 : (0 : Int) ≤ (k : Int) := by omega
  have hs : 16 ≤ ((⟨l.toArray⟩ : ByteArray).extract k l.length).size := by
    rw [ByteArray.size_extract, show (⟨l.toArray⟩ : ByteArray).size = l.length from List.size_toArray ..]
    omega
  have he : List.take 16 (List.take (l.length - k) (List.drop k l)) = nth l i := by
    rw [nth, hk, List.take_take, Nat.min_eq_left (by omega)]
  have hn : (nth l i).length = 16 := nth_length l i hi
  have HE := Lib.hid he
  clear he hk hl hi
  go_enter Try.func32, Try.ntmps32
  go_wp2
  obtain ⟨W, hW⟩ : ∃ W, (w.alloc (.cells #[.int .u8 0, .int .u8 0, .int .u8 0, .int .u8 0, .int .u8 0, .int .u8 0, .int .u8 0, .int .u8 0, .int .u8 0, .int .u8 0, .int .u8 0, .int .u8 0, .int .u8 0, .int .u8 0, .int .u8 0, .int .u8 0] 74)).alloc (.cells #[.int .u8 0, .int .u8 0, .int .u8 0, .int .u8 0, .int .u8 0, .int .u8 0, .int .u8 0, .int .u8 0, .int .u8 0, .int .u8 0, .int .u8 0, .int .u8 0, .int .u8 0, .int .u8 0, .int .u8 0, .int .u8 0] 74) = W := ⟨_, rfl⟩
  have hB0 : W.heap[w.heap.size]? = some (.cells #[.int .u8 0, .int .u8 0, .int .u8 0, .int .u8 0, .int .u8 0, .int .u8 0, .int .u8 0, .int .u8 0, .int .u8 0, .int .u8 0, .int .u8 0, .int .u8 0, .int .u8 0, .int .u8 0, .int .u8 0, .int .u8 0] 74 (0, 0)) := by rw [← hW]; exact heap_alloc2_old _ _ _
  have hB1 : W.heap[w.heap.size + 1]? = some (.cells #[.int .u8 0, .int .u8 0, .int .u8 0, .int .u8 0, .int .u8 0, .int .u8 0, .int .u8 0, .int .u8 0, .int .u8 0, .int .u8 0, .int .u8 0, .int .u8 0, .int .u8 0, .int .u8 0, .int .u8 0, .int .u8 0] 74 (0, 0)) := by rw [← hW]; exact heap_alloc2_new _ _ _
  have hk : KeptIn (· < w.heap.size) w W := by rw [← hW]; exact ((KeptIn.refl _ _).alloc (fun _ h => h) _).alloc (fun _ h => h) _
  rw [hW]
  clear hW
  go_region_law (refine step_copy_head (by rfl) (.tmp 6) (.tmp 10) (by rfl) (w.heap.size + 1) 16 (by simp [Act.eval, Act.put]) _ (by simp [Act.eval, Act.put]) _ _ hB1 rfl hs ?_)
  rw [HE.out]
  have hsz : (Lib.byteCells (nth l i)).toArray.size = 16 := by rw [List.size_toArray, Lib.byteCells_length, hn]
  have hi : (Try.prog.info? 74).map (·.size) = some (Lib.byteCells (nth l i)).toArray.size := by rw [hsz]; kernel_rfl
  obtain ⟨W2, hW2⟩ : ∃ W2, W.drew.setRow (w.heap.size + 1) (Lib.byteCells (nth l i)).toArray = W2 := ⟨_, rfl⟩
  have hC1 : W2.heap[w.heap.size + 1]? = some (.cells (Lib.byteCells (nth l i)).toArray 74 (0, 0)) := by rw [← hW2]; exact setRow_heap _ _ _ _ _ _ hB1
  have hC0 : W2.heap[w.heap.size]? = some (.cells #[.int .u8 0, .int .u8 0, .int .u8 0, .int .u8 0, .int .u8 0, .int .u8 0, .int .u8 0, .int .u8 0, .int .u8 0, .int .u8 0, .int .u8 0, .int .u8 0, .int .u8 0, .int .u8 0, .int .u8 0, .int .u8 0] 74 (0, 0)) := by rw [← hW2]; exact (setRow_other _ _ _ _ (by omega)).trans hB0
  have hk2 : KeptIn (· < w.heap.size) w W2 := by
    rw [← hW2]
    exact ⟨hk.os, hk.tape, hk.output, by simpa using hk.size, fun x hx => (setRow_other _ _ _ _ (by omega)).trans (hk.block x hx)⟩
  rw [hW2]
  clear hW2 HE hs b1 b2 b3
  have h1 : (Lib.byteCells (nth l i)).toArray.all (·.oneCell') = true := all_oneCell_toArray (Lib.byteCells_one _)
  go_wp2_with (first
    | (refine wpList_load_row rfl 74 _ rfl (w.heap.size + 1) rfl 74 _ _ _ hC1 Try.underlying74 rfl hi ?_)
    | (refine wpList_store_row rfl 74 _ _ rfl w.heap.size (Lib.byteCells (nth l i)).toArray rfl rfl 74 _ hC0 hi (by rw [hsz]; rfl) h1 ?_))
  go_frame
  have hD : (W2.setRow w.heap.size (Lib.byteCells (nth l i)).toArray).heap[w.heap.size]? = some (.cells (Lib.byteCells (nth l i)).toArray 74 (0, 0)) := setRow_heap _ _ _ _ _ _ hC0
  refine bodyPost_ret (results_cell_row rfl _ _ w.heap.size 74 _ _ _ rfl hD Try.underlying74 rfl hi) rfl ⟨rfl, ?_, ?_⟩
  · exact ⟨hk2.os, hk2.tape, hk2.output, by simpa using hk2.size, fun x hx => (setRow_other _ _ _ _ (by omega)).trans (hk2.block x hx)⟩
  · simpa using hk2.size

end Go.Proofs.Ytmfnapbahkonhaa
