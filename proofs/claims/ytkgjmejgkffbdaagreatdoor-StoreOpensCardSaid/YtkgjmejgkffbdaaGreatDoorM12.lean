import Derived.Test.YtkgjmejgkffbdaaGreatDoorSmL
import Derived.Test.YtkgjmejgkffbdaaGreatDoorM11
import Derived.Test.YtkgjmejgkffbdaaGreatDoorM9
import Derived.Test.YtkgjmejgkffbdaaGreatDoorM7
import Derived.Test.YtkgjmejgkffbdaaGreatDoorDnewL
/- Stores (layer 7): how one lies in memory with its device; what only reads it. -/
set_option linter.unusedVariables false
namespace Go.Proofs.YtkgjmejgkffbdaaGreatDoor
open Go.RowKit

/-- The blocks of a store and its device. -/
structure Ad where
  d : Nat
  m : Nat
  s : Nat
  b : Nat
  st : Nat
  pg : Nat
def Ad.has (A : Ad) (k : Nat) : Prop := k = A.d ∨ k = A.m ∨ k = A.s ∨ k = A.b ∨ k = A.st ∨ k = A.pg

/-- The cells of pages. -/
def cellsG : List Pag → List Value
  | [] => []
  | g :: r => .int .i64 (g.1 : Int) :: .string ⟨g.2.toArray⟩ :: cellsG r
theorem cellsG_length (P : List Pag) : (cellsG P).length = P.length * 2 := by
  induction P with
  | nil => rfl
  | cons g r ih => rw [cellsG, List.length_cons, List.length_cons, ih, List.length_cons]; omega
theorem cellsG_at (P : List Pag) : ∀ i, i < P.length → (cellsG P)[i * 2]? = some (.int .i64 (stOf P i : Int)) ∧ (cellsG P)[i * 2 + 1]? = some (.string ⟨(txOf P i).toArray⟩) := by
  induction P with
  | nil => intro i h; cases h
  | cons g r ih =>
    intro i h
    cases i with
    | zero => exact ⟨rfl, rfl⟩
    | succ i =>
      have := ih i (by simpa using h)
      rw [show (i + 1) * 2 = i * 2 + 1 + 1 by omega]
      exact this
theorem cellsG_set (P : List Pag) (g : Pag) : ∀ i, i < P.length → ((cellsG P).set (i * 2) (.int .i64 (g.1 : Int))).set (i * 2 + 1) (.string ⟨g.2.toArray⟩) = cellsG (P.set i g) := by
  induction P with
  | nil => intro i h; cases h
  | cons x r ih =>
    intro i h
    cases i with
    | zero => rfl
    | succ i =>
      have := ih i (by simpa using h)
      rw [show (i + 1) * 2 = i * 2 + 1 + 1 by omega, List.set_cons_succ]
      simp only [cellsG, List.set_cons_succ]
      rw [this]

/-- A store at its blocks: its device, its head, where that stands, its pages. -/
structure StAt (A : Ad) (h : Hd) (a : Nat) (P : List Pag) (W : World) : Prop where
  hs : W.heap[A.st]? = some (.cells #[.pointer (some ⟨A.d, 0, none⟩), .int .u64 h.gen, .int .i64 h.root, .int .i64 h.slow, .int .i64 h.fast, .int .i64 h.chunk, .int .i64 a, .slice (some ⟨A.pg, 0, none⟩) P.length P.length] 95 (0, 0))
  hp : W.heap[A.pg]? = some (.cells (cellsG P).toArray 98 (0, 0))

section
variable {A : Ad} {h : Hd} {a : Nat} {P : List Pag} {W W' : World}
theorem StAt.kept {X : Nat → Prop} (k : StAt A h a P W) (hk : KeptIn X W W') (h1 : X A.st) (h2 : X A.pg) : StAt A h a P W' := ⟨(hk.block _ h1).trans k.hs, (hk.block _ h2).trans k.hp⟩
theorem StAt.lts (k : StAt A h a P W) : A.st < W.heap.size := (Array.getElem?_eq_some_iff.1 k.hs).1
theorem StAt.ltp (k : StAt A h a P W) : A.pg < W.heap.size := (Array.getElem?_eq_some_iff.1 k.hp).1
theorem StAt.ne (k : StAt A h a P W) : A.st ≠ A.pg := fun e => by
  have := k.hs; rw [e, k.hp] at this
  simp only [Option.some.injEq, Obj.cells.injEq] at this
  exact absurd this.2.1 (by decide)
theorem StAt.old (k : StAt A h a P W) (hk : KeptIn (· < W.heap.size) W W') : StAt A h a P W' := k.kept hk k.lts k.ltp
theorem StAt.c0 (k : StAt A h a P W) : W.cell? ⟨A.st, 0, none⟩ = some (.pointer (some ⟨A.d, 0, none⟩)) := by simp [World.cell?, k.hs]
theorem StAt.c1 (k : StAt A h a P W) : W.cell? ⟨A.st, 1, none⟩ = some (.int .u64 h.gen) := by simp [World.cell?, k.hs]
theorem StAt.c2 (k : StAt A h a P W) : W.cell? ⟨A.st, 2, none⟩ = some (.int .i64 h.root) := by simp [World.cell?, k.hs]
theorem StAt.c3 (k : StAt A h a P W) : W.cell? ⟨A.st, 3, none⟩ = some (.int .i64 h.slow) := by simp [World.cell?, k.hs]
theorem StAt.c4 (k : StAt A h a P W) : W.cell? ⟨A.st, 4, none⟩ = some (.int .i64 h.fast) := by simp [World.cell?, k.hs]
theorem StAt.c5 (k : StAt A h a P W) : W.cell? ⟨A.st, 5, none⟩ = some (.int .i64 h.chunk) := by simp [World.cell?, k.hs]
theorem StAt.c6 (k : StAt A h a P W) : W.cell? ⟨A.st, 6, none⟩ = some (.int .i64 a) := by simp [World.cell?, k.hs]
theorem StAt.c7 (k : StAt A h a P W) : W.cell? ⟨A.st, 7, none⟩ = some (.slice (some ⟨A.pg, 0, none⟩) P.length P.length) := by simp [World.cell?, k.hs]
theorem StAt.fs (k : StAt A h a P W) (i : Nat) : W.frozen? ⟨A.st, i, none⟩ = false := by simp [World.frozen?, k.hs]
theorem StAt.fp (k : StAt A h a P W) (i : Nat) : W.frozen? ⟨A.pg, i, none⟩ = false := by simp [World.frozen?, k.hp]
theorem StAt.at (k : StAt A h a P W) (i : Nat) (hi : i < P.length) : W.cell? ⟨A.pg, i * 2, none⟩ = some (.int .i64 (stOf P i : Int)) ∧ W.cell? ⟨A.pg, i * 2 + 1, none⟩ = some (.string ⟨(txOf P i).toArray⟩) := by
  obtain ⟨h1, h2⟩ := cellsG_at P i hi
  rw [cell_of_row _ _ _ _ _ _ k.hp, cell_of_row _ _ _ _ _ _ k.hp]
  exact ⟨by simpa using h1, by simpa using h2⟩
/-- A page is set. -/
theorem StAt.set (k : StAt A h a P W) (i : Nat) (hi : i < P.length) (g : Pag) : StAt A h a (P.set i g) ((W.setCell ⟨A.pg, i * 2, none⟩ (.int .i64 (g.1 : Int))).setCell ⟨A.pg, i * 2 + 1, none⟩ (.string ⟨g.2.toArray⟩)) := by
  have hn := k.ne
  refine ⟨?_, ?_⟩
  · rw [List.length_set]
    exact (heap_setCell_other _ _ _ _ hn).trans ((heap_setCell_other _ _ _ _ hn).trans k.hs)
  · have h1 := heap_setCell_same W A.pg (i * 2) _ _ (.int .i64 (g.1 : Int)) k.hp
    have h2 := heap_setCell_same (W.setCell ⟨A.pg, i * 2, none⟩ (.int .i64 (g.1 : Int))) A.pg (i * 2 + 1) _ _ (.string ⟨g.2.toArray⟩) h1
    refine h2.trans ?_
    rw [← cellsG_set P g i hi]
    simp
/-- The head, and where it stands, are set. -/
theorem StAt.put (k : StAt A h a P W) (h' : Hd) (a' : Nat) : StAt A h' a' P ((((((W.setCell ⟨A.st, 1, none⟩ (.int .u64 h'.gen)).setCell ⟨A.st, 2, none⟩ (.int .i64 h'.root)).setCell ⟨A.st, 3, none⟩ (.int .i64 h'.slow)).setCell ⟨A.st, 4, none⟩ (.int .i64 h'.fast)).setCell ⟨A.st, 5, none⟩ (.int .i64 h'.chunk)).setCell ⟨A.st, 6, none⟩ (.int .i64 a')) := by
  have hn := k.ne.symm
  refine ⟨?_, ?_⟩
  · have h1 := heap_setCell_same W A.st 1 _ _ (.int .u64 h'.gen) k.hs
    have h2 := heap_setCell_same _ A.st 2 _ _ (.int .i64 h'.root) h1
    have h3 := heap_setCell_same _ A.st 3 _ _ (.int .i64 h'.slow) h2
    have h4 := heap_setCell_same _ A.st 4 _ _ (.int .i64 h'.fast) h3
    have h5 := heap_setCell_same _ A.st 5 _ _ (.int .i64 h'.chunk) h4
    have h6 := heap_setCell_same _ A.st 6 _ _ (.int .i64 a') h5
    exact h6.trans rfl
  · exact (heap_setCell_other _ _ _ _ hn).trans ((heap_setCell_other _ _ _ _ hn).trans ((heap_setCell_other _ _ _ _ hn).trans ((heap_setCell_other _ _ _ _ hn).trans ((heap_setCell_other _ _ _ _ hn).trans ((heap_setCell_other _ _ _ _ hn).trans k.hp)))))
end

/-- All but the blocks of A stands. -/
abbrev Fr (A : Ad) (W W' : World) : Prop := KeptIn (fun k => k < W.heap.size ∧ ¬ A.has k) W W'
theorem Fr.trans' {A : Ad} {U V W : World} (h : Fr A U V) (k : Fr A V W) : Fr A U W := h.trans (k.mono fun i hi => ⟨Nat.lt_of_lt_of_le hi.1 h.size, hi.2⟩)
theorem Fr.of_old {A : Ad} {V W : World} (h : KeptIn (· < V.heap.size) V W) : Fr A V W := h.mono fun _ hk => hk.1
theorem Fr.since {A : Ad} {B : Nat} {w V W : World} (k : KeptIn (· < B) w V) (hB : B ≤ V.heap.size) (hA : ∀ j, A.has j → B ≤ j) (h : Fr A V W) : KeptIn (· < B) w W :=
  k.trans (h.mono fun j hj => ⟨Nat.lt_of_lt_of_le hj hB, fun ha => Nat.lt_irrefl _ (Nat.lt_of_lt_of_le hj (hA j ha))⟩)

/-- A store and its device. -/
structure Sv (A : Ad) (N : Nat) (p : Pw) (S : List (List UInt8)) (M : Int → Option (List UInt8)) (h : Hd) (a : Nat) (P : List Pag) (W : World) : Prop where
  isD : IsD A.d A.m A.s A.b N S M W
  isP : IsP A.m p W
  isS : StAt A h a P W
  len : P.length = min (S.length / 16) 512
  two : 2 ≤ P.length
  good : goodH h = true
  ha : a ≤ 1
  sts : ∀ q, stOf P q ≤ 2
  txs : ∀ q, stOf P q = 1 → (txOf P q).length = 256

section
variable {A : Ad} {N : Nat} {p : Pw} {S : List (List UInt8)} {M : Int → Option (List UInt8)} {h : Hd} {a : Nat} {P : List Pag} {W W' : World}
theorem Sv.lts (k : Sv A N p S M h a P W) : ∀ j, A.has j → j < W.heap.size := by
  rintro j (rfl | rfl | rfl | rfl | rfl | rfl)
  · exact k.isD.ltd
  · exact k.isP.lt
  · exact k.isD.lts
  · exact k.isD.ltb
  · exact k.isS.lts
  · exact k.isS.ltp
theorem Sv.old (k : Sv A N p S M h a P W) (hk : KeptIn (· < W.heap.size) W W') : Sv A N p S M h a P W' :=
  ⟨k.isD.kept hk k.isD.ltd k.isD.lts k.isD.ltb, k.isP.kept hk k.isP.lt, k.isS.old hk, k.len, k.two, k.good, k.ha, k.sts, k.txs⟩
theorem Sv.plen (k : Sv A N p S M h a P W) : P.length ≤ 512 ∧ 16 * P.length ≤ S.length ∧ S.length ≤ 16384 := by
  have := k.len; have := k.isD.max; omega
/-- The blocks of the store and those of the device are others. -/
theorem Sv.apart (k : Sv A N p S M h a P W) : (A.st ≠ A.d ∧ A.st ≠ A.m ∧ A.st ≠ A.s ∧ A.st ≠ A.b) ∧ (A.pg ≠ A.d ∧ A.pg ≠ A.m ∧ A.pg ≠ A.s ∧ A.pg ≠ A.b) := by
  have e1 := k.isS.hs; have e2 := k.isS.hp; have e3 := k.isD.hd; have e4 := k.isD.hs
  have e5 : W.heap[A.m]? = _ := k.isP.1
  have key : ∀ {x y : Nat} {c c' : Array Value} {t t' : TypeId} {f f' : Nat × Nat}, W.heap[x]? = some (.cells c t f) → W.heap[y]? = some (.cells c' t' f') → t ≠ t' → x ≠ y := fun h1 h2 ht e => by
    rw [e, h2] at h1
    simp only [Option.some.injEq, Obj.cells.injEq] at h1
    exact ht h1.2.1.symm
  exact ⟨⟨key e1 e3 (by decide), key e1 e5 (by decide), key e1 e4 (by decide), k.isD.map.ne e1⟩, key e2 e3 (by decide), key e2 e5 (by decide), key e2 e4 (by decide), k.isD.map.ne e2⟩
/-- What changes the device alone leaves the store. -/
theorem Sv.dev {N' : Nat} {p' : Pw} {S' : List (List UInt8)} {M' : Int → Option (List UInt8)} (k : Sv A N p S M h a P W) (hd : IsD A.d A.m A.s A.b N' S' M' W') (hp : IsP A.m p' W') (hl : S'.length = S.length)
    (hk : KeptIn (fun k => k < W.heap.size ∧ k ≠ A.m ∧ k ≠ A.s ∧ k ≠ A.b) W W') : Sv A N' p' S' M' h a P W' ∧ Fr A W W' := by
  obtain ⟨⟨n1, n2, n3, n4⟩, n5, n6, n7, n8⟩ := k.apart
  exact ⟨⟨hd, hp, k.isS.kept hk ⟨k.isS.lts, n2, n3, n4⟩ ⟨k.isS.ltp, n6, n7, n8⟩, by rw [hl]; exact k.len, k.two, k.good, k.ha, k.sts, k.txs⟩,
    hk.mono fun j hj => ⟨hj.1, fun e => hj.2 (.inr (.inl e)), fun e => hj.2 (.inr (.inr (.inl e))), fun e => hj.2 (.inr (.inr (.inr (.inl e))))⟩⟩
/-- What changes the store's blocks alone leaves the device. -/
theorem Sv.sto {h' : Hd} {a' : Nat} {P' : List Pag} (k : Sv A N p S M h a P W) (hs : StAt A h' a' P' W') (hk : KeptIn (fun k => k < W.heap.size ∧ k ≠ A.st ∧ k ≠ A.pg) W W') (hl : P'.length = P.length) (hg : goodH h' = true) (ha : a' ≤ 1)
    (h1 : ∀ q, stOf P' q ≤ 2) (h2 : ∀ q, stOf P' q = 1 → (txOf P' q).length = 256) : Sv A N p S M h' a' P' W' ∧ Fr A W W' := by
  obtain ⟨⟨n1, n2, n3, n4⟩, n5, n6, n7, n8⟩ := k.apart
  exact ⟨⟨k.isD.kept hk ⟨k.isD.ltd, n1.symm, n5.symm⟩ ⟨k.isD.lts, n3.symm, n7.symm⟩ ⟨k.isD.ltb, n4.symm, n8.symm⟩, k.isP.kept hk ⟨k.isP.lt, n2.symm, n6.symm⟩, hs, by rw [hl]; exact k.len, by rw [hl]; exact k.two, hg, ha, h1, h2⟩,
    hk.mono fun j hj => ⟨hj.1, fun e => hj.2 (.inr (.inr (.inr (.inr (.inl e))))), fun e => hj.2 (.inr (.inr (.inr (.inr (.inr e)))))⟩⟩
end

attribute [local go_sem high] run_max2 run_min2

theorem stPagesOf (d m s b N : Nat) (S : List (List UInt8)) (M : Int → Option (List UInt8)) (w : World) (h : IsD d m s b N S M w) (n : Nat) (hn : min (S.length / 16) 512 = n) :
    Calls Tryz.prog 36 #[.pointer (some ⟨d, 0, none⟩)] w fun e w' => e = .returned (.int .i64 n) ∧ w = w' := by
  have CL := Lib.hid (dLen d m s b N S M w h)
  have hm := h.max
  obtain ⟨u, hu⟩ : ∃ u, S.length = u := ⟨_, rfl⟩
  rw [hu] at hm hn CL
  have HN : Hid (min ((u : Int) / 16) 512 = (n : Int)) := Lib.hid (by omega)
  have b0 : (0 : Int) ≤ (u : Int) := by omega
  have b1 : (u : Int) ≤ 16384 := by omega
  clear h hn hu hm
  go_enter Tryz.func36, Tryz.ntmps36
  go_wp2_with (go_at_call 67; refine CL.out.mono ?_; rintro e w' ⟨rfl, rfl⟩)
  go_ret
  exact ⟨by rw [HN.out]; rfl, rfl⟩

theorem stPages (A : Ad) (h : Hd) (a : Nat) (P : List Pag) (w : World) (k : StAt A h a P w) :
    Calls Tryz.prog 25 #[.pointer (some ⟨A.st, 0, none⟩)] w fun e w' => e = .returned (.int .i64 P.length) ∧ w = w' := by
  have c7 := k.c7
  obtain ⟨n, hn⟩ : ∃ n, P.length = n := ⟨_, rfl⟩
  rw [hn] at c7 ⊢
  clear k hn
  go_enter Tryz.func25, Tryz.ntmps25
  go_wp2
  go_ret
  exact ⟨rfl, rfl⟩

theorem stPagesNil (w : World) : Calls Tryz.prog 25 #[.pointer none] w fun e w' => e = .returned (.int .i64 0) ∧ w = w' := by
  go_enter Tryz.func25, Tryz.ntmps25
  go_wp2
  go_ret
  exact ⟨rfl, rfl⟩

/-- Whether a number is one of n pages that may hold a node. -/
def holdsB (n : Nat) (q : Int) : Bool := decide (1 ≤ q) && decide (q < (n : Int))

theorem stHolds (A : Ad) (h : Hd) (a : Nat) (P : List Pag) (q : Int) (w : World) (k : StAt A h a P w) :
    Calls Tryz.prog 43 #[.pointer (some ⟨A.st, 0, none⟩), .int .i64 q] w fun e w' => e = .returned (.bool (holdsB P.length q)) ∧ w = w' := by
  have c7 := k.c7
  obtain ⟨n, hn⟩ : ∃ n, P.length = n := ⟨_, rfl⟩
  rw [hn] at c7 ⊢
  clear k hn
  unfold holdsB
  by_cases h1 : 1 ≤ q
  · rw [decide_eq_true h1, Bool.true_and]
    obtain ⟨r, hr⟩ : ∃ r, decide (q < (n : Int)) = r := ⟨_, rfl⟩
    rw [hr]
    have HR := Lib.hid hr; clear hr
    go_enter Tryz.func43, Tryz.ntmps43
    go_wp2
    go_ret
    exact ⟨by rw [HR.out]; rfl, rfl⟩
  · rw [decide_eq_false h1, Bool.false_and]
    have h1' : q < 1 := by omega
    go_enter Tryz.func43, Tryz.ntmps43
    go_wp2
    go_ret
    exact ⟨rfl, rfl⟩

/-- What Head hands back. -/
def HeadS (B : Nat) (w : World) (o : Hd) (e : Ending) (w' : World) : Prop := e = .returned (headV o) ∧ KeptIn (· < B) w w'

theorem results_hd {fn : Func} {u : Tmp} (e : fn.results = #[.cell u 39]) (tmps : Array Value) (w : World) (x : Nat) (h : Hd)
    (hp : tmps.getD u undef = .pointer (some ⟨x, 0, none⟩)) (hb : BoxH x h w) : (results fn tmps).run Tryz.prog w = .ok (headV h) w :=
  results_cell_row e tmps w x 39 _ _ _ hp hb Tryz.underlying39 rfl (by kernel_rfl)

theorem stHead (A : Ad) (h : Hd) (a : Nat) (P : List Pag) (w : World) (k : StAt A h a P w) :
    Calls Tryz.prog 24 #[.pointer (some ⟨A.st, 0, none⟩)] w (HeadS w.heap.size w h) := by
  have k0 := k.old ((KeptIn.refl _ w).alloc (fun _ h => h) (.cells #[.int .u64 0, .int .i64 0, .int .i64 0, .int .i64 0, .int .i64 0] 39))
  have c1 := k0.c1; have c2 := k0.c2; have c3 := k0.c3; have c4 := k0.c4; have c5 := k0.c5
  obtain ⟨g, r, s, f, c⟩ := h
  simp only at c1 c2 c3 c4 c5
  clear k k0
  go_enter Tryz.func24, Tryz.ntmps24
  go_wp2_with fail
  try simp only [Exit.inBlock, Exit.then]
  refine bodyPost_ret (results_hd rfl _ _ w.heap.size ⟨g, r, s, f, c⟩ rfl (BoxH.new w ⟨g, r, s, f, c⟩)) rfl ?_
  unfold HeadS
  exact ⟨rfl, (KeptIn.refl _ w).alloc (fun _ h => h) _⟩

theorem stHeadNil (w : World) : Calls Tryz.prog 24 #[.pointer none] w (HeadS w.heap.size w noH) := by
  go_enter Tryz.func24, Tryz.ntmps24
  go_wp2_with fail
  try simp only [Exit.inBlock, Exit.then]
  refine bodyPost_ret (results_hd rfl _ _ w.heap.size noH rfl (BoxH.new w noH)) rfl ?_
  unfold HeadS
  exact ⟨rfl, (KeptIn.refl _ w).alloc (fun _ h => h) _⟩

end Go.Proofs.YtkgjmejgkffbdaaGreatDoor
/- A store's Keep and Sweep. -/
set_option linter.unusedVariables false
namespace Go.Proofs.YtkgjmejgkffbdaaGreatDoor
open Go.RowKit

/-- A slice's value reads as the integers l; it lies in none of A's blocks. -/
structure IntsIn (A : Ad) (W : World) (a : Option Addr) (l : List Int) : Prop where
  len : l.length ≤ maxLen
  wf : ∀ x ∈ l, I64 x
  cells : 0 < l.length → ∃ b off, a = some ⟨b, off, none⟩ ∧ b < W.heap.size ∧ ¬ A.has b ∧ ∀ i, i < l.length → W.cell? ⟨b, off + i, none⟩ = some (.int .i64 (l.getD i 0))
theorem IntsIn.fr {A : Ad} {W W' : World} {a : Option Addr} {l : List Int} (h : IntsIn A W a l) (hk : Fr A W W') : IntsIn A W' a l :=
  ⟨h.len, h.wf, fun hp => by
    obtain ⟨b, off, e, hlt, hn, hc⟩ := h.cells hp
    exact ⟨b, off, e, Nat.lt_of_lt_of_le hlt hk.size, hn, fun i hi => (World.cell?_of_block (a := ⟨b, off + i, none⟩) (hk.block b ⟨hlt, hn⟩)).trans (hc i hi)⟩⟩
theorem ints_none (A : Ad) (W : World) (a : Option Addr) : IntsIn A W a [] := ⟨Nat.zero_le _, (fun x h => by cases h), fun h => absurd h (Nat.lt_irrefl 0)⟩
theorem IntsIn.old {A : Ad} {W W' : World} {a : Option Addr} {l : List Int} (h : IntsIn A W a l) (hk : KeptIn (· < W.heap.size) W W') : IntsIn A W' a l := h.fr (Fr.of_old hk)

def pgOf (P : List Pag) (q : Nat) : Pag := P.getD q pag0
theorem pgOf_st (P : List Pag) (q : Nat) : (pgOf P q).1 = stOf P q := rfl
theorem pgOf_tx (P : List Pag) (q : Nat) : (pgOf P q).2 = txOf P q := rfl
theorem pgOf_set (P : List Pag) (q r : Nat) (g : Pag) (hq : q < P.length) : pgOf (P.set q g) r = if r = q then g else pgOf P r := by
  unfold pgOf
  rw [List.getD_eq_getElem?_getD, List.getD_eq_getElem?_getD]
  by_cases e : r = q
  · subst e; rw [List.getElem?_set_self hq, if_pos rfl]; rfl
  · rw [List.getElem?_set_ne (fun h => e h.symm), if_neg e]
theorem pgOf_ext {P Q : List Pag} (hl : P.length = Q.length) (h : ∀ q, q < P.length → pgOf P q = pgOf Q q) : P = Q := by
  apply List.ext_getElem hl
  intro i h1 h2
  have := h i h1
  unfold pgOf at this
  rw [List.getD_eq_getElem?_getD, List.getD_eq_getElem?_getD, List.getElem?_eq_getElem h1, List.getElem?_eq_getElem h2] at this
  exact this
theorem pgOf_map (n : Nat) (f : Nat → Pag) (q : Nat) (h : q < n) : pgOf ((List.range n).map f) q = f q := by
  unfold pgOf
  rw [List.getD_eq_getElem?_getD, List.getElem?_map, List.getElem?_range h]
  rfl

def keepF (P : List Pag) (l : List Int) (q : Nat) : Pag := if 1 ≤ q ∧ (q : Int) ∈ l then (2, []) else if stOf P q = 2 then pag0 else pgOf P q
/-- Just these are committed. -/
def keepP (P : List Pag) (l : List Int) : List Pag := (List.range P.length).map (keepF P l)
theorem keepP_length (P : List Pag) (l : List Int) : (keepP P l).length = P.length := by simp [keepP]
theorem keepP_st (P : List Pag) (l : List Int) (q : Nat) : stOf (keepP P l) q = if q < P.length ∧ 1 ≤ q ∧ (q : Int) ∈ l then 2 else if stOf P q = 2 then 0 else stOf P q := by
  by_cases hq : q < P.length
  · rw [← pgOf_st, keepP, pgOf_map _ _ _ hq, keepF]
    by_cases h1 : 1 ≤ q ∧ (q : Int) ∈ l
    · rw [if_pos h1, if_pos ⟨hq, h1⟩]
    · rw [if_neg h1, if_neg (show ¬ (q < P.length ∧ 1 ≤ q ∧ (q : Int) ∈ l) from fun h => h1 h.2)]
      by_cases h2 : stOf P q = 2
      · rw [if_pos h2, if_pos h2]; rfl
      · rw [if_neg h2, if_neg h2]; rfl
  · rw [stOf_ge _ _ (by rw [keepP_length]; omega), if_neg (fun h => hq h.1), stOf_ge P q (by omega)]
    simp
theorem keepP_tx (P : List Pag) (l : List Int) (q : Nat) (h : stOf (keepP P l) q = 1) : txOf (keepP P l) q = txOf P q ∧ stOf P q = 1 := by
  by_cases hq : q < P.length
  · rw [← pgOf_st, keepP, pgOf_map _ _ _ hq, keepF] at h
    rw [← pgOf_tx, keepP, pgOf_map _ _ _ hq, keepF]
    by_cases h1 : 1 ≤ q ∧ (q : Int) ∈ l
    · rw [if_pos h1] at h; cases h
    · rw [if_neg h1] at h ⊢
      by_cases h2 : stOf P q = 2
      · rw [if_pos h2] at h; cases h
      · rw [if_neg h2] at h ⊢; exact ⟨rfl, h⟩
  · rw [stOf_ge _ _ (by rw [keepP_length]; omega)] at h; cases h

def sweepF (P : List Pag) (l : List Int) (q : Nat) : Pag := if stOf P q = 1 ∧ ¬ (1 ≤ q ∧ (q : Int) ∈ l) then pag0 else pgOf P q
/-- Of the new pages just these stay. -/
def sweepP (P : List Pag) (l : List Int) : List Pag := (List.range P.length).map (sweepF P l)
theorem sweepP_length (P : List Pag) (l : List Int) : (sweepP P l).length = P.length := by simp [sweepP]
theorem sweepP_st (P : List Pag) (l : List Int) (q : Nat) : stOf (sweepP P l) q = if stOf P q = 1 ∧ ¬ (1 ≤ q ∧ (q : Int) ∈ l) then 0 else stOf P q := by
  by_cases hq : q < P.length
  · rw [← pgOf_st, sweepP, pgOf_map _ _ _ hq, sweepF]
    split <;> rfl
  · rw [stOf_ge _ _ (by rw [sweepP_length]; omega), stOf_ge P q (by omega)]
    simp
theorem sweepP_tx (P : List Pag) (l : List Int) (q : Nat) (h : stOf (sweepP P l) q = 1) : txOf (sweepP P l) q = txOf P q ∧ stOf P q = 1 := by
  by_cases hq : q < P.length
  · rw [← pgOf_st, sweepP, pgOf_map _ _ _ hq, sweepF] at h
    rw [← pgOf_tx, sweepP, pgOf_map _ _ _ hq, sweepF]
    by_cases h1 : stOf P q = 1 ∧ ¬ (1 ≤ q ∧ (q : Int) ∈ l)
    · rw [if_pos h1] at h; cases h
    · rw [if_neg h1] at h ⊢; exact ⟨rfl, h⟩
  · rw [stOf_ge _ _ (by rw [sweepP_length]; omega)] at h; cases h

theorem ite_iff {α : Type} {c d : Prop} [Decidable c] [Decidable d] (h : c ↔ d) (x y : α) : (if c then x else y) = if d then x else y := by
  by_cases k : c
  · rw [if_pos k, if_pos (h.1 k)]
  · rw [if_neg k, if_neg (fun e => k (h.2 e))]
theorem take_mem (l : List Int) (j : Nat) (hj : j < l.length) (x : Int) : x ∈ l.take (j + 1) ↔ x ∈ l.take j ∨ x = l.getD j 0 := by
  rw [List.take_succ_eq_append_getElem hj, List.mem_append, List.getD_eq_getElem?_getD, List.getElem?_eq_getElem hj]
  simp

/-- What the store's rounds leave: the pages as R tells. -/
structure Rnd (A : Ad) (h : Hd) (a n : Nat) (w : World) (R : Nat → Pag) (W : World) : Prop where
  ex : ∃ Q, StAt A h a Q W ∧ Q.length = n ∧ ∀ q, q < n → pgOf Q q = R q
  kept : KeptIn (fun k => k < w.heap.size ∧ k ≠ A.st ∧ k ≠ A.pg) w W

section
variable {A : Ad} {h : Hd} {a n : Nat} {w W : World} {R R' : Nat → Pag}
theorem Rnd.c7 (r : Rnd A h a n w R W) : W.cell? ⟨A.st, 7, none⟩ = some (.slice (some ⟨A.pg, 0, none⟩) n n) := by
  obtain ⟨Q, h1, h2, _⟩ := r.ex
  rw [← h2]; exact h1.c7
theorem Rnd.at (r : Rnd A h a n w R W) (i : Nat) (hi : i < n) : W.cell? ⟨A.pg, i * 2, none⟩ = some (.int .i64 ((R i).1 : Int)) ∧ W.cell? ⟨A.pg, i * 2 + 1, none⟩ = some (.string ⟨(R i).2.toArray⟩) := by
  obtain ⟨Q, h1, h2, h3⟩ := r.ex
  have := h1.at i (by omega)
  rw [← pgOf_st, ← pgOf_tx, h3 i hi] at this
  exact this
theorem Rnd.fz (r : Rnd A h a n w R W) (i : Nat) : W.frozen? ⟨A.pg, i, none⟩ = false := by
  obtain ⟨Q, h1, _⟩ := r.ex
  exact h1.fp i
theorem Rnd.congr (r : Rnd A h a n w R W) (e : ∀ q, q < n → R q = R' q) : Rnd A h a n w R' W := by
  obtain ⟨Q, h1, h2, h3⟩ := r.ex
  exact ⟨⟨Q, h1, h2, fun q hq => (h3 q hq).trans (e q hq)⟩, r.kept⟩
theorem Rnd.set (r : Rnd A h a n w R W) (i : Nat) (hi : i < n) (g : Pag) (e : ∀ q, q < n → (if q = i then g else R q) = R' q) : Rnd A h a n w R' ((W.setCell ⟨A.pg, i * 2, none⟩ (.int .i64 (g.1 : Int))).setCell ⟨A.pg, i * 2 + 1, none⟩ (.string ⟨g.2.toArray⟩)) := by
  obtain ⟨Q, h1, h2, h3⟩ := r.ex
  refine ⟨⟨Q.set i g, h1.set i (by omega) g, by rw [List.length_set]; exact h2, fun q hq => ?_⟩, (r.kept.setCell (p := ⟨A.pg, i * 2, none⟩) (by simp) _).setCell (p := ⟨A.pg, i * 2 + 1, none⟩) (by simp) _⟩
  rw [pgOf_set Q i q g (by omega), h3 q hq]
  exact e q hq
theorem Rnd.any (r : Rnd A h a n w R W) : ∃ Q, StAt A h a Q W ∧ Q.length = n := by
  obtain ⟨Q, h1, h2, _⟩ := r.ex
  exact ⟨Q, h1, h2⟩
theorem Rnd.ints (r : Rnd A h a n w R W) {b : Option Addr} {l : List Int} (hi : IntsIn A w b l) : IntsIn A W b l :=
  hi.fr (r.kept.mono fun k hk => ⟨hk.1, fun e => hk.2 (.inr (.inr (.inr (.inr (.inl e))))), fun e => hk.2 (.inr (.inr (.inr (.inr (.inr e)))))⟩)
theorem Rnd.fin {N : Nat} {p : Pw} {S : List (List UInt8)} {M : Int → Option (List UInt8)} {P P' : List Pag} (r : Rnd A h a P.length w R W) (k : Sv A N p S M h a P w) (hl : P'.length = P.length) (e : ∀ q, q < P.length → R q = pgOf P' q)
    (h1 : ∀ q, stOf P' q ≤ 2) (h2 : ∀ q, stOf P' q = 1 → (txOf P' q).length = 256) : Sv A N p S M h a P' W ∧ Fr A w W := by
  obtain ⟨Q, q1, q2, q3⟩ := r.ex
  obtain rfl : Q = P' := pgOf_ext (by rw [q2, hl]) fun q hq => by rw [q3 q (by omega), e q (by omega)]
  exact k.sto q1 r.kept hl k.good k.ha h1 h2
end

set_option maxHeartbeats 2000000 in
theorem stKeep {A : Ad} {N : Nat} {p : Pw} {S : List (List UInt8)} {M : Int → Option (List UInt8)} {h : Hd} {a : Nat} {P : List Pag} {w : World} (k : Sv A N p S M h a P w) (a' : Option Addr) (cap : Nat) (l : List Int) (hi : IntsIn A w a' l) :
    Calls Tryz.prog 21 #[.pointer (some ⟨A.st, 0, none⟩), .slice a' l.length cap] w fun e w' => e = .returned (.tuple #[]) ∧ Sv A N p S M h a (keepP P l) w' ∧ Fr A w w' := by
  have hfin : ∀ W, Rnd A h a P.length w (keepF P l) W → Sv A N p S M h a (keepP P l) W ∧ Fr A w W := fun W r =>
    r.fin k (keepP_length P l) (fun q hq => by rw [keepP, pgOf_map _ _ _ hq])
      (fun q => by
        rw [keepP_st]
        have := k.sts q
        split
        · exact Nat.le_refl _
        · split
          · exact Nat.zero_le _
          · exact this)
      (fun q hq => by
        obtain ⟨e1, e2⟩ := keepP_tx P l q hq
        rw [e1]
        exact k.txs q e2)
  obtain ⟨n, hn⟩ : ∃ n, P.length = n := ⟨_, rfl⟩
  obtain ⟨ll, hll⟩ : ∃ ll, l.length = ll := ⟨_, rfl⟩
  have hpl := k.plen.1
  have hm : (ll : Int) ≤ 9223372036854775807 := by have := hi.len; unfold maxLen at this; omega
  have r0 : Rnd A h a n w (fun q => pgOf P q) w := ⟨⟨P, k.isS, hn, fun _ _ => rfl⟩, .refl _ _⟩
  have c7 := r0.c7
  rw [hn] at hfin hpl
  have HFIN := Lib.hid hfin
  have HI := Lib.hid hi
  have HLL := Lib.hid hll
  have HR0 := Lib.hid r0
  rw [hll]
  clear hfin k hi hll hn r0
  go_enter Tryz.func21, Tryz.ntmps21
  go_wp2_with fail
  have hst0 : Hid (Rnd A h a n w (fun q => if q < 0 ∧ stOf P q = 2 then pag0 else pgOf P q) w) := Lib.hid (HR0.out.congr fun q _ => by rw [if_neg (fun h => absurd h.1 (by omega))])
  clear c7
  go_loopw [4, 14] (fun _ c wr => ∃ (j : Nat) (W' : World), W' = wr ∧ j ≤ n ∧ c = .int .i64 j ∧ Hid (Rnd A h a n w (fun q => if q < j ∧ stOf P q = 2 then pag0 else pgOf P q) W')) (fun _ c _ => n - (RowKit.intOf c).toNat)
  case atStart => exact ⟨0, _, rfl, Nat.zero_le _, rfl, hst0⟩
  case round =>
    obtain ⟨j, W', rfl, hj, rfl, HR⟩ := hrel
    clear hst0 HR0
    have b0 : (0 : Int) ≤ (j : Int) := by omega
    have c7 := HR.out.c7
    by_cases hlt : j < n
    · have b1 : (j : Int) < (n : Int) := by omega
      obtain ⟨e1, e2⟩ := HR.out.at j hlt
      simp only [Nat.lt_irrefl, false_and, if_false, pgOf_st, pgOf_tx] at e1 e2
      obtain ⟨sj, hsj⟩ : ∃ sj, stOf P j = sj := ⟨_, rfl⟩
      obtain ⟨tj, htj⟩ : ∃ tj, txOf P j = tj := ⟨_, rfl⟩
      rw [hsj] at e1
      rw [htj] at e2
      by_cases h2 : sj = 2
      · subst h2
        have f1 := HR.out.fz (j * 2); have f2 := HR.out.fz (j * 2 + 1)
        have hs := HR.out.set j hlt pag0 (R' := fun q => if q < j + 1 ∧ stOf P q = 2 then pag0 else pgOf P q) (fun q hq => by
          by_cases e : q = j
          · rw [if_pos e, if_pos ⟨by omega, by rw [e]; exact hsj⟩]
          · rw [if_neg e]
            by_cases h3 : q < j ∧ stOf P q = 2
            · rw [if_pos h3, if_pos ⟨by omega, h3.2⟩]
            · rw [if_neg h3, if_neg (fun h => h3 ⟨by omega, h.2⟩)])
        have HS := Lib.hid hs
        clear hs hsj htj HR
        go_wp2_with fail
        go_roundw
        case rel => exact ⟨j + 1, _, rfl, by omega, by go_num, HS⟩
        case measure => simp [RowKit.intOf]; omega
      · have b2 : ¬ (sj : Int) = 2 := by omega
        have hs := HR.out.congr (R' := fun q => if q < j + 1 ∧ stOf P q = 2 then pag0 else pgOf P q) (fun q hq => by
          by_cases h3 : q < j ∧ stOf P q = 2
          · rw [if_pos h3, if_pos ⟨by omega, h3.2⟩]
          · rw [if_neg h3, if_neg (fun h => by
              by_cases e : q = j
              · rw [e, hsj] at h; exact h2 h.2
              · exact h3 ⟨by omega, h.2⟩)])
        have HS := Lib.hid hs
        clear hs hsj htj h2 HR
        go_wp2_with fail
        go_roundw
        case rel => exact ⟨j + 1, _, rfl, by omega, by go_num, HS⟩
        case measure => simp [RowKit.intOf]; omega
    · obtain rfl : j = n := by omega
      have hs : Hid (Rnd A h a j w (fun q => if 1 ≤ q ∧ (q : Int) ∈ l.take 0 then (2, []) else if stOf P q = 2 then pag0 else pgOf P q) W') := Lib.hid (HR.out.congr fun q hq => by
        rw [if_neg (show ¬ (1 ≤ q ∧ (q : Int) ∈ l.take 0) from fun h => by simp at h)]
        by_cases h3 : stOf P q = 2
        · rw [if_pos ⟨hq, h3⟩, if_pos h3]
        · rw [if_neg (show ¬ (q < j ∧ stOf P q = 2) from fun h => h3 h.2), if_neg h3])
      clear HR c7 hlt
      have HN := Lib.hid hpl
      obtain ⟨n, hn⟩ : ∃ n, n = j := ⟨_, rfl⟩
      rw [← hn] at hs HFIN HN
      go_wp2_with fail
      clear hn hj hpl b0
      go_loopw [6, 36] (fun _ c wr => ∃ (i : Nat) (W : World), W = wr ∧ i ≤ ll ∧ c = .int .i64 i ∧ Hid (Rnd A h a n w (fun q => if 1 ≤ q ∧ (q : Int) ∈ l.take i then (2, []) else if stOf P q = 2 then pag0 else pgOf P q) W)) (fun _ c _ => ll - (RowKit.intOf c).toNat)
      case atStart => exact ⟨0, _, rfl, Nat.zero_le _, rfl, hs⟩
      case round =>
        obtain ⟨i, W, rfl, hj, rfl, HR⟩ := hrel
        clear hs
        have b0 : (0 : Int) ≤ (i : Int) := by omega
        by_cases hlt : i < ll
        · have b1 : (i : Int) < (ll : Int) := by omega
          have hil : i < l.length := by rw [HLL.out]; exact hlt
          obtain ⟨b, off, rfl, hb, _, hc⟩ := (HR.out.ints HI.out).cells (by omega)
          have e0 := hc i hil
          obtain ⟨Q, hQ1, hQ2⟩ := HR.out.any
          have c7 := HR.out.c7
          obtain ⟨x, hx⟩ : ∃ x, l.getD i 0 = x := ⟨_, rfl⟩
          have CH := stHolds A h a Q x W hQ1
          rw [hQ2] at CH
          have htm := take_mem l i hil
          rw [hx] at e0 htm
          have HTM := Lib.hid htm
          clear hc hx htm hQ1 hQ2 hb
          cases hh : holdsB n x with
          | true =>
            rw [hh] at CH
            have HCH := Lib.hid CH
            have hq : ∃ q : Nat, x = (q : Int) ∧ 1 ≤ q ∧ q < n := by
              unfold holdsB at hh
              simp only [Bool.and_eq_true, decide_eq_true_eq] at hh
              exact ⟨x.toNat, by omega, by omega, by omega⟩
            obtain ⟨q, rfl, hq1, hqn⟩ := hq
            have b2 : (0 : Int) ≤ (q : Int) := by omega
            have b3 : (q : Int) < (n : Int) := by omega
            obtain ⟨e1, e2⟩ := HR.out.at q hqn
            have f1 := HR.out.fz (q * 2); have f2 := HR.out.fz (q * 2 + 1)
            have hs := HR.out.set q hqn (2, []) (R' := fun r => if 1 ≤ r ∧ (r : Int) ∈ l.take (i + 1) then (2, []) else if stOf P r = 2 then pag0 else pgOf P r) (fun r hr => by
              by_cases e : r = q
              · rw [if_pos e, if_pos ⟨by omega, (HTM.out _).2 (.inr (by rw [e]))⟩]
              · rw [if_neg e]
                exact ite_iff ⟨fun h3 => ⟨h3.1, (HTM.out _).2 (.inl h3.2)⟩, fun h => ⟨h.1, ((HTM.out _).1 h.2).resolve_right (by omega)⟩⟩ _ _)
            have HS := Lib.hid hs
            obtain ⟨u1, hu1⟩ : ∃ u : Nat, ((if 1 ≤ q ∧ (q : Int) ∈ l.take i then (2, []) else if stOf P q = 2 then pag0 else pgOf P q) : Pag).1 = u := ⟨_, rfl⟩
            obtain ⟨u2, hu2⟩ : ∃ u, ((if 1 ≤ q ∧ (q : Int) ∈ l.take i then (2, []) else if stOf P q = 2 then pag0 else pgOf P q) : Pag).2 = u := ⟨_, rfl⟩
            rw [hu1] at e1
            rw [hu2] at e2
            clear hs hh CH HR hil hu1 hu2
            go_wp2_with (go_at_call 43; refine HCH.out.mono ?_; rintro e w' ⟨rfl, rfl⟩)
            go_roundw
            case rel => exact ⟨i + 1, _, rfl, by omega, by go_num, HS⟩
            case measure => simp [RowKit.intOf]; omega
          | false =>
            rw [hh] at CH
            have HCH := Lib.hid CH
            have hs := HR.out.congr (R' := fun r => if 1 ≤ r ∧ (r : Int) ∈ l.take (i + 1) then (2, []) else if stOf P r = 2 then pag0 else pgOf P r) (fun r hr => by
              have hne : 1 ≤ r → (r : Int) ≠ x := fun h1 e => by
                unfold holdsB at hh
                rw [← e] at hh
                simp at hh
                omega
              exact ite_iff ⟨fun h3 => ⟨h3.1, (HTM.out _).2 (.inl h3.2)⟩, fun h => ⟨h.1, ((HTM.out _).1 h.2).resolve_right (hne h.1)⟩⟩ _ _)
            have HS := Lib.hid hs
            clear hs hh CH HR hil c7
            go_wp2_with (go_at_call 43; refine HCH.out.mono ?_; rintro e w' ⟨rfl, rfl⟩)
            go_roundw
            case rel => exact ⟨i + 1, _, rfl, by omega, by go_num, HS⟩
            case measure => simp [RowKit.intOf]; omega
        · obtain rfl : i = ll := by omega
          have hs := HFIN.out W (HR.out.congr fun q hq => by
            unfold keepF
            rw [List.take_of_length_le (by rw [HLL.out]; exact Nat.le_refl _)])
          have HS := Lib.hid hs
          clear hs HR
          go_wp2_with fail
          go_end0
          exact ⟨rfl, HS.out⟩

theorem stKeepNil (v : Value) (w : World) : Calls Tryz.prog 21 #[.pointer none, v] w fun e w' => e = .returned (.tuple #[]) ∧ w = w' := by
  go_enter Tryz.func21, Tryz.ntmps21
  go_wp2
  refine bodyPost_ret (results_none rfl _ _ _) rfl ?_
  exact ⟨rfl, rfl⟩
theorem stSweepNil (v : Value) (w : World) : Calls Tryz.prog 14 #[.pointer none, v] w fun e w' => e = .returned (.tuple #[]) ∧ w = w' := by
  go_enter Tryz.func14, Tryz.ntmps14
  go_wp2
  refine bodyPost_ret (results_none rfl _ _ _) rfl ?_
  exact ⟨rfl, rfl⟩

end Go.Proofs.YtkgjmejgkffbdaaGreatDoor
/- Which pages may be committed: slices.ContainsFunc and slices.Contains at integers; a store's inUse, leadsToOneOf. -/
set_option linter.unusedVariables false
namespace Go.Proofs.YtkgjmejgkffbdaaGreatDoor
open Go.RowKit

/-- A page that is new or committed. -/
def usedB (P : List Pag) (x : Int) : Bool := holdsB P.length x && decide (stOf P x.toNat ≠ 0)

theorem stInUse1 (A : Ad) (h : Hd) (a : Nat) (P : List Pag) (B : Nat) (x : Int) (W : World) (k : StAt A h a P W) (hb : W.heap[B]? = some (.cells #[.pointer (some ⟨A.st, 0, none⟩)] 27 (0, 0))) :
    Calls Tryz.prog 77 #[.int .i64 x, .pointer (some ⟨B, 0, none⟩)] W fun e w' => e = .returned (.bool (!usedB P x)) ∧ W = w' := by
  have CH := stHolds A h a P x W k
  have cb : W.cell? ⟨B, 0, none⟩ = some (.pointer (some ⟨A.st, 0, none⟩)) := by simp [World.cell?, hb]
  have c7 := k.c7
  unfold usedB
  cases hh : holdsB P.length x with
  | false =>
    rw [hh] at CH
    have HCH := Lib.hid CH
    rw [Bool.false_and, Bool.not_false]
    clear CH k hb hh c7
    go_enter Tryz.func77, Tryz.ntmps77
    go_wp2_with (go_at_call 43; refine HCH.out.mono ?_; rintro e w' ⟨rfl, rfl⟩)
    go_ret
    exact ⟨rfl, rfl⟩
  | true =>
    rw [hh] at CH
    have HCH := Lib.hid CH
    have hq : ∃ q : Nat, x = (q : Int) ∧ q < P.length := by
      unfold holdsB at hh
      simp only [Bool.and_eq_true, decide_eq_true_eq] at hh
      exact ⟨x.toNat, by omega, by omega⟩
    obtain ⟨q, rfl, hqn⟩ := hq
    obtain ⟨e1, e2⟩ := k.at q hqn
    rw [Bool.true_and, show ((q : Int)).toNat = q by omega]
    obtain ⟨n, hn⟩ : ∃ n, P.length = n := ⟨_, rfl⟩
    rw [hn] at c7 hqn
    have b0 : (0 : Int) ≤ (q : Int) := by omega
    have b1 : (q : Int) < (n : Int) := by omega
    obtain ⟨sq, hsq⟩ : ∃ sq, stOf P q = sq := ⟨_, rfl⟩
    rw [hsq] at e1 ⊢
    by_cases h0 : sq = 0
    · subst h0
      rw [show (!decide ((0 : Nat) ≠ 0)) = true by decide]
      clear CH k hb hh hn hsq e2
      go_enter Tryz.func77, Tryz.ntmps77
      go_wp2_with (go_at_call 43; refine HCH.out.mono ?_; rintro e w' ⟨rfl, rfl⟩)
      go_ret
      exact ⟨rfl, rfl⟩
    · rw [show (!decide (sq ≠ 0)) = false by simp [h0]]
      have b2 : ¬ (sq : Int) = 0 := by omega
      clear CH k hb hh hn hsq e2 h0
      go_enter Tryz.func77, Tryz.ntmps77
      go_wp2_with (go_at_call 43; refine HCH.out.mono ?_; rintro e w' ⟨rfl, rfl⟩)
      go_ret
      refine ⟨?_, rfl⟩
      show Ending.returned (.bool ((sq : Int) == 0)) = _
      rw [beq_false_of_ne b2]

/-- slices.IndexFunc with inUse's function: whether there is a page that may not be. -/
theorem iIndexF (A : Ad) (h : Hd) (a : Nat) (P : List Pag) (B : Nat) (b : Option Addr) (cap : Nat) (l : List Int) (W : World) (k : StAt A h a P W) (hb : W.heap[B]? = some (.cells #[.pointer (some ⟨A.st, 0, none⟩)] 27 (0, 0))) (hi : IntsIn A W b l) :
    Calls Tryz.prog 103 #[.slice b l.length cap, .func (.func 77) #[] #[.pointer (some ⟨B, 0, none⟩)]] W fun e w' => (∃ i : Int, e = .returned (.int .i64 i) ∧ (0 ≤ i ↔ l.all (usedB P) = false)) ∧ W = w' := by
  obtain ⟨n, hn⟩ : ∃ n, l.length = n := ⟨_, rfl⟩
  have hm : (n : Int) ≤ 9223372036854775807 := by have := hi.len; unfold maxLen at this; omega
  have C := Lib.hid (fun x => stInUse1 A h a P B x W k hb)
  have H := Lib.hid hi
  have HN := Lib.hid hn
  rw [hn]
  clear hi hn k hb
  go_enter Tryz.func103, Tryz.ntmps103
  go_wp2_with fail
  go_loopw [5, 8] (fun _ c wr => ∃ (j : Nat) (V : World), V = wr ∧ wr = W ∧ j ≤ n ∧ c = .int .i64 j ∧ Hid (∀ i, i < j → usedB P (l.getD i 0) = true)) (fun _ c _ => n - (RowKit.intOf c).toNat)
  case atStart => exact ⟨0, _, rfl, by trivial, Nat.zero_le _, rfl, Lib.hid fun i hi => absurd hi (by omega)⟩
  case round =>
    obtain ⟨j, V, rfl, rfl, hj, rfl, HJ⟩ := hrel
    have d0 : (0 : Int) ≤ (j : Int) := by omega
    by_cases hlt : j < n
    · have d1 : (j : Int) < (n : Int) := by omega
      have hjl : j < l.length := by rw [HN.out]; exact hlt
      obtain ⟨b, off, rfl, hb, _, hc⟩ := H.out.cells (by omega)
      have e1 := hc j hjl
      obtain ⟨x, hx⟩ : ∃ x, l.getD j 0 = x := ⟨_, rfl⟩
      have HX := Lib.hid hx
      rw [hx] at e1
      have CX := C.out x
      cases hu : usedB P x with
      | true =>
        rw [hu] at CX
        have HCX := Lib.hid CX
        have HJ2 : Hid (∀ i, i < j + 1 → usedB P (l.getD i 0) = true) := Lib.hid fun i hi => by
          rcases Nat.lt_or_ge i j with h | h
          · exact HJ.out i h
          · obtain rfl : i = j := by omega
            rw [HX.out]; exact hu
        clear CX hc hx hu HJ hjl
        go_wp2_with (go_at_call 77; refine HCX.out.mono ?_; rintro e w' ⟨rfl, rfl⟩)
        go_roundw
        case rel => exact ⟨j + 1, _, rfl, by trivial, by omega, by go_num, HJ2⟩
        case measure => simp [RowKit.intOf]; omega
      | false =>
        rw [hu] at CX
        have HCX := Lib.hid CX
        have hall : l.all (usedB P) = false := by
          rw [List.all_eq_false]
          refine ⟨x, ?_, by rw [hu]; simp⟩
          rw [← hx, List.getD_eq_getElem?_getD, List.getElem?_eq_getElem hjl]
          exact List.getElem_mem hjl
        have HA := Lib.hid hall
        clear CX hc hx hu HJ hjl hall
        go_wp2_with (go_at_call 77; refine HCX.out.mono ?_; rintro e w' ⟨rfl, rfl⟩)
        go_ret
        exact ⟨⟨_, rfl, fun _ => HA.out, fun _ => by omega⟩, rfl⟩
    · have d1 : (n : Int) ≤ (j : Int) := by omega
      have hall : l.all (usedB P) = true := by
        rw [List.all_eq_true]
        intro x hx
        obtain ⟨i, hi, rfl⟩ := List.getElem_of_mem hx
        have := HJ.out i (by have := HN.out; omega)
        rw [List.getD_eq_getElem?_getD, List.getElem?_eq_getElem hi] at this
        exact this
      have HA := Lib.hid hall
      clear HJ hall
      go_wp2_with fail
      go_ret
      exact ⟨⟨_, rfl, fun h => absurd h (by omega), fun h => by rw [HA.out] at h; cases h⟩, rfl⟩

theorem iContainsF (A : Ad) (h : Hd) (a : Nat) (P : List Pag) (B : Nat) (b : Option Addr) (cap : Nat) (l : List Int) (W : World) (k : StAt A h a P W) (hb : W.heap[B]? = some (.cells #[.pointer (some ⟨A.st, 0, none⟩)] 27 (0, 0))) (hi : IntsIn A W b l) :
    Calls Tryz.prog 76 #[.slice b l.length cap, .func (.func 77) #[] #[.pointer (some ⟨B, 0, none⟩)]] W fun e w' => e = .returned (.bool (!l.all (usedB P))) ∧ W = w' := by
  have C := Lib.hid (iIndexF A h a P B b cap l W k hb hi)
  obtain ⟨n, hn⟩ : ∃ n, l.length = n := ⟨_, rfl⟩
  obtain ⟨u, hu⟩ : ∃ u, l.all (usedB P) = u := ⟨_, rfl⟩
  rw [hn, hu] at C
  rw [hn, hu]
  clear k hb hi hn hu
  go_enter Tryz.func76, Tryz.ntmps76
  go_wp2_with (go_at_call 103; refine C.out.mono ?_)
  rintro e V ⟨⟨i, rfl, hi⟩, rfl⟩
  by_cases h0 : 0 ≤ i
  · obtain rfl := hi.1 h0
    clear hi
    go_wp2_with fail
    go_ret
    exact ⟨rfl, rfl⟩
  · obtain rfl : u = true := by
      cases u with
      | true => rfl
      | false => exact absurd (hi.2 rfl) h0
    clear hi
    go_wp2_with fail
    go_ret
    refine ⟨?_, rfl⟩
    show Ending.returned (.bool (decide (0 ≤ i))) = _
    rw [decide_eq_false (by omega)]
    rfl

theorem stInUse (A : Ad) (h : Hd) (a : Nat) (P : List Pag) (b : Option Addr) (cap : Nat) (l : List Int) (w : World) (k : StAt A h a P w) (hi : IntsIn A w b l) :
    Calls Tryz.prog 45 #[.pointer (some ⟨A.st, 0, none⟩), .slice b l.length cap] w fun e w' => e = .returned (.bool (l.all (usedB P))) ∧ KeptIn (· < w.heap.size) w w' := by
  obtain ⟨W0, hW0⟩ : ∃ W0, w.alloc (.cells #[.pointer (some ⟨A.st, 0, none⟩)] 27) = W0 := ⟨_, rfl⟩
  have hk0 : KeptIn (· < w.heap.size) w W0 := by rw [← hW0]; exact (KeptIn.refl _ w).alloc (fun _ h => h) _
  have hb : W0.heap[w.heap.size]? = some (.cells #[.pointer (some ⟨A.st, 0, none⟩)] 27 (0, 0)) := by rw [← hW0]; exact heap_alloc_new w _
  have C := Lib.hid (iContainsF A h a P w.heap.size b cap l W0 (k.old hk0) hb (hi.old hk0))
  have HK := Lib.hid hk0
  obtain ⟨n, hn⟩ : ∃ n, l.length = n := ⟨_, rfl⟩
  obtain ⟨u, hu⟩ : ∃ u, l.all (usedB P) = u := ⟨_, rfl⟩
  rw [hn, hu] at C
  rw [hn, hu]
  have HW0 := Lib.hid hW0
  clear k hb hi hn hu hk0 hW0
  go_enter Tryz.func45, Tryz.ntmps45
  go_wp2_with (go_at_call 76; rw [HW0.out]; refine C.out.mono ?_; rintro e w' ⟨rfl, rfl⟩)
  go_ret
  exact ⟨by simp, HK.out⟩

/-- slices.Index at integers: whether a number is among them. -/
theorem iIndex (A : Ad) (x : Int) (b : Option Addr) (cap : Nat) (l : List Int) (W : World) (hi : IntsIn A W b l) :
    Calls Tryz.prog 104 #[.slice b l.length cap, .int .i64 x] W fun e w' => (∃ i : Int, e = .returned (.int .i64 i) ∧ (0 ≤ i ↔ x ∈ l)) ∧ W = w' := by
  obtain ⟨n, hn⟩ : ∃ n, l.length = n := ⟨_, rfl⟩
  have hm : (n : Int) ≤ 9223372036854775807 := by have := hi.len; unfold maxLen at this; omega
  have H := Lib.hid hi
  have HN := Lib.hid hn
  rw [hn]
  clear hi hn
  go_enter Tryz.func104, Tryz.ntmps104
  go_wp2_with fail
  go_loopw [5, 8] (fun _ c wr => ∃ (j : Nat) (V : World), V = wr ∧ wr = W ∧ j ≤ n ∧ c = .int .i64 j ∧ Hid (∀ i, i < j → l.getD i 0 ≠ x)) (fun _ c _ => n - (RowKit.intOf c).toNat)
  case atStart => exact ⟨0, _, rfl, by trivial, Nat.zero_le _, rfl, Lib.hid fun i hi => absurd hi (by omega)⟩
  case round =>
    obtain ⟨j, V, rfl, rfl, hj, rfl, HJ⟩ := hrel
    have d0 : (0 : Int) ≤ (j : Int) := by omega
    by_cases hlt : j < n
    · have d1 : (j : Int) < (n : Int) := by omega
      have hjl : j < l.length := by rw [HN.out]; exact hlt
      obtain ⟨b, off, rfl, hb, _, hc⟩ := H.out.cells (by omega)
      have e1 := hc j hjl
      obtain ⟨y, hy⟩ : ∃ y, l.getD j 0 = y := ⟨_, rfl⟩
      rw [hy] at e1
      by_cases hxy : x = y
      · have hin : x ∈ l := by
          rw [hxy, ← hy, List.getD_eq_getElem?_getD, List.getElem?_eq_getElem hjl]
          exact List.getElem_mem hjl
        have HA := Lib.hid hin
        subst hxy
        clear hc hy HJ hjl hin
        go_wp2_with fail
        go_ret
        exact ⟨⟨_, rfl, fun _ => HA.out, fun _ => by omega⟩, rfl⟩
      · have HJ2 : Hid (∀ i, i < j + 1 → l.getD i 0 ≠ x) := Lib.hid fun i hi => by
          rcases Nat.lt_or_ge i j with h | h
          · exact HJ.out i h
          · obtain rfl : i = j := by omega
            rw [hy]; exact fun e => hxy e.symm
        clear hc hy HJ hjl
        go_wp2_with fail
        go_roundw
        case rel => exact ⟨j + 1, _, rfl, by trivial, by omega, by go_num, HJ2⟩
        case measure => simp [RowKit.intOf]; omega
    · have d1 : (n : Int) ≤ (j : Int) := by omega
      have hnot : x ∉ l := fun hx => by
        obtain ⟨i, hi, rfl⟩ := List.getElem_of_mem hx
        have := HJ.out i (by have := HN.out; omega)
        rw [List.getD_eq_getElem?_getD, List.getElem?_eq_getElem hi] at this
        exact this rfl
      have HA := Lib.hid hnot
      clear HJ hnot
      go_wp2_with fail
      go_ret
      exact ⟨⟨_, rfl, fun h => absurd h (by omega), fun h => absurd h HA.out⟩, rfl⟩

theorem iContains (A : Ad) (x : Int) (b : Option Addr) (cap : Nat) (l : List Int) (W : World) (hi : IntsIn A W b l) :
    Calls Tryz.prog 78 #[.slice b l.length cap, .int .i64 x] W fun e w' => e = .returned (.bool (decide (x ∈ l))) ∧ W = w' := by
  have C := Lib.hid (iIndex A x b cap l W hi)
  obtain ⟨n, hn⟩ : ∃ n, l.length = n := ⟨_, rfl⟩
  rw [hn] at C
  rw [hn]
  clear hi hn
  by_cases hx : x ∈ l
  · rw [decide_eq_true hx]
    have HX := Lib.hid hx
    clear hx
    go_enter Tryz.func78, Tryz.ntmps78
    go_wp2_with (go_at_call 104; refine C.out.mono ?_; rintro e w' ⟨⟨i, rfl, hi⟩, rfl⟩; have hi0 : (0 : Int) ≤ i := hi.2 HX.out; clear hi)
    go_ret
    exact ⟨rfl, rfl⟩
  · rw [decide_eq_false hx]
    have HX := Lib.hid hx
    clear hx
    go_enter Tryz.func78, Tryz.ntmps78
    go_wp2_with (go_at_call 104; refine C.out.mono ?_; rintro e w' ⟨⟨i, rfl, hi⟩, rfl⟩; have hi0 : i < (0 : Int) := Int.not_le.1 fun h => HX.out (hi.1 h); clear hi)
    go_ret
    refine ⟨?_, rfl⟩
    show Ending.returned (.bool (decide (0 ≤ i))) = _
    rw [decide_eq_false (by omega)]

theorem stLeads (A : Ad) (x : Int) (b : Option Addr) (cap : Nat) (l : List Int) (W : World) (hi : IntsIn A W b l) :
    Calls Tryz.prog 46 #[.int .i64 x, .slice b l.length cap] W fun e w' => e = .returned (.bool (decide (x = 0 ∨ x ∈ l))) ∧ W = w' := by
  have C := Lib.hid (iContains A x b cap l W hi)
  obtain ⟨n, hn⟩ : ∃ n, l.length = n := ⟨_, rfl⟩
  rw [hn] at C
  rw [hn]
  clear hi hn
  by_cases h0 : x = 0
  · subst h0
    rw [decide_eq_true (.inl rfl)]
    clear C
    go_enter Tryz.func46, Tryz.ntmps46
    go_wp2
    go_ret
    exact ⟨rfl, rfl⟩
  · obtain ⟨r, hr⟩ : ∃ r, decide (x ∈ l) = r := ⟨_, rfl⟩
    rw [hr] at C
    rw [show decide (x = 0 ∨ x ∈ l) = r by rw [← hr]; simp [h0]]
    clear hr
    go_enter Tryz.func46, Tryz.ntmps46
    go_wp2_with (go_at_call 78; refine C.out.mono ?_; rintro e w' ⟨rfl, rfl⟩)
    go_ret
    refine ⟨?_, rfl⟩
    show Ending.returned (.bool (x == 0 || r)) = _
    rw [beq_false_of_ne h0, Bool.false_or]

end Go.Proofs.YtkgjmejgkffbdaaGreatDoor
