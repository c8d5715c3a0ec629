import Derived.Test.YtefompndoopceaaGreatDoorSmK
import Derived.Test.YtefompndoopceaaGreatDoorLf4K
import Derived.Test.YtefompndoopceaaGreatDoorJ8
/- Stores (layer 7): how one lies in memory with its device; what only reads it. -/
set_option linter.unusedVariables false
namespace Go.Proofs.YtefompndoopceaaGreatDoor
open Go.RowKit

/-- The blocks of a store and its device. -/
structure Ad where
  d : Nat
  m : Nat
  s : Nat
  b : Nat
  st : Nat
  pg : Nat
def Ad.has (A : Ad) (k : Nat) : Prop := k = A.d ∨ k = A.m ∨ k = A.s ∨ k = A.b ∨ k = A.st ∨ k = A.pg

/-- The cells of pages. -/
def cellsG : List Pag → List Value
  | [] => []
  | g :: r => .int .i64 (g.1 : Int) :: .string ⟨g.2.toArray⟩ :: cellsG r
theorem cellsG_length (P : List Pag) : (cellsG P).length = P.length * 2 := by
  induction P with
  | nil => rfl
  | cons g r ih => rw [cellsG, List.length_cons, List.length_cons, ih, List.length_cons]; omega
theorem cellsG_at (P : List Pag) : ∀ i, i < P.length → (cellsG P)[i * 2]? = some (.int .i64 (stOf P i : Int)) ∧ (cellsG P)[i * 2 + 1]? = some (.string ⟨(txOf P i).toArray⟩) := by
  induction P with
  | nil => intro i h; cases h
  | cons g r ih =>
    intro i h
    cases i with
    | zero => exact ⟨rfl, rfl⟩
    | succ i =>
      have := ih i (by simpa using h)
      rw [show (i + 1) * 2 = i * 2 + 1 + 1 by omega]
      exact this
theorem cellsG_set (P : List Pag) (g : Pag) : ∀ i, i < P.length → ((cellsG P).set (i * 2) (.int .i64 (g.1 : Int))).set (i * 2 + 1) (.string ⟨g.2.toArray⟩) = cellsG (P.set i g) := by
  induction P with
  | nil => intro i h; cases h
  | cons x r ih =>
    intro i h
    cases i with
    | zero => rfl
    | succ i =>
      have := ih i (by simpa using h)
      rw [show (i + 1) * 2 = i * 2 + 1 + 1 by omega, List.set_cons_succ]
      simp only [cellsG, List.set_cons_succ]
      rw [this]

/-- A store at its blocks: its device, its head, where that stands, its pages. -/
structure StAt (A : Ad) (h : Hd) (a : Nat) (P : List Pag) (W : World) : Prop where
  hs : W.heap[A.st]? = some (.cells #[.pointer (some ⟨A.d, 0, none⟩), .int .u64 h.gen, .int .i64 h.root, .int .i64 h.slow, .int .i64 h.fast, .int .i64 h.chunk, .int .i64 a, .slice (some ⟨A.pg, 0, none⟩) P.length P.length] 101 (0, 0))
  hp : W.heap[A.pg]? = some (.cells (cellsG P).toArray 104 (0, 0))

section
variable {A : Ad} {h : Hd} {a : Nat} {P : List Pag} {W W' : World}
theorem StAt.kept {X : Nat → Prop} (k : StAt A h a P W) (hk : KeptIn X W W') (h1 : X A.st) (h2 : X A.pg) : StAt A h a P W' := ⟨(hk.block _ h1).trans k.hs, (hk.block _ h2).trans k.hp⟩
theorem StAt.lts (k : StAt A h a P W) : A.st < W.heap.size := (Array.getElem?_eq_some_iff.1 k.hs).1
theorem StAt.ltp (k : StAt A h a P W) : A.pg < W.heap.size := (Array.getElem?_eq_some_iff.1 k.hp).1
theorem StAt.ne (k : StAt A h a P W) : A.st ≠ A.pg := fun e => by
  have := k.hs; rw [e, k.hp] at this
  simp only [Option.some.injEq, Obj.cells.injEq] at this
  exact absurd this.2.1 (by decide)
theorem StAt.old (k : StAt A h a P W) (hk : KeptIn (· < W.heap.size) W W') : StAt A h a P W' := k.kept hk k.lts k.ltp
theorem StAt.c0 (k : StAt A h a P W) : W.cell? ⟨A.st, 0, none⟩ = some (.pointer (some ⟨A.d, 0, none⟩)) := by simp [World.cell?, k.hs]
theorem StAt.c1 (k : StAt A h a P W) : W.cell? ⟨A.st, 1, none⟩ = some (.int .u64 h.gen) := by simp [World.cell?, k.hs]
theorem StAt.c2 (k : StAt A h a P W) : W.cell? ⟨A.st, 2, none⟩ = some (.int .i64 h.root) := by simp [World.cell?, k.hs]
theorem StAt.c3 (k : StAt A h a P W) : W.cell? ⟨A.st, 3, none⟩ = some (.int .i64 h.slow) := by simp [World.cell?, k.hs]
theorem StAt.c4 (k : StAt A h a P W) : W.cell? ⟨A.st, 4, none⟩ = some (.int .i64 h.fast) := by simp [World.cell?, k.hs]
theorem StAt.c5 (k : StAt A h a P W) : W.cell? ⟨A.st, 5, none⟩ = some (.int .i64 h.chunk) := by simp [World.cell?, k.hs]
theorem StAt.c6 (k : StAt A h a P W) : W.cell? ⟨A.st, 6, none⟩ = some (.int .i64 a) := by simp [World.cell?, k.hs]
theorem StAt.c7 (k : StAt A h a P W) : W.cell? ⟨A.st, 7, none⟩ = some (.slice (some ⟨A.pg, 0, none⟩) P.length P.length) := by simp [World.cell?, k.hs]
theorem StAt.fs (k : StAt A h a P W) (i : Nat) : W.frozen? ⟨A.st, i, none⟩ = false := by simp [World.frozen?, k.hs]
theorem StAt.fp (k : StAt A h a P W) (i : Nat) : W.frozen? ⟨A.pg, i, none⟩ = false := by simp [World.frozen?, k.hp]
theorem StAt.at (k : StAt A h a P W) (i : Nat) (hi : i < P.length) : W.cell? ⟨A.pg, i * 2, none⟩ = some (.int .i64 (stOf P i : Int)) ∧ W.cell? ⟨A.pg, i * 2 + 1, none⟩ = some (.string ⟨(txOf P i).toArray⟩) := by
  obtain ⟨h1, h2⟩ := cellsG_at P i hi
  rw [cell_of_row _ _ _ _ _ _ k.hp, cell_of_row _ _ _ _ _ _ k.hp]
  exact ⟨by simpa using h1, by simpa using h2⟩
/-- A page is set. -/
theorem StAt.set (k : StAt A h a P W) (i : Nat) (hi : i < P.length) (g : Pag) : StAt A h a (P.set i g) ((W.setCell ⟨A.pg, i * 2, none⟩ (.int .i64 (g.1 : Int))).setCell ⟨A.pg, i * 2 + 1, none⟩ (.string ⟨g.2.toArray⟩)) := by
  have hn := k.ne
  refine ⟨?_, ?_⟩
  · rw [List.length_set]
    exact (heap_setCell_other _ _ _ _ hn).trans ((heap_setCell_other _ _ _ _ hn).trans k.hs)
  · have h1 := heap_setCell_same W A.pg (i * 2) _ _ (.int .i64 (g.1 : Int)) k.hp
    have h2 := heap_setCell_same (W.setCell ⟨A.pg, i * 2, none⟩ (.int .i64 (g.1 : Int))) A.pg (i * 2 + 1) _ _ (.string ⟨g.2.toArray⟩) h1
    refine h2.trans ?_
    rw [← cellsG_set P g i hi]
    simp
/-- The head, and where it stands, are set. -/
theorem StAt.put (k : StAt A h a P W) (h' : Hd) (a' : Nat) : StAt A h' a' P ((((((W.setCell ⟨A.st, 1, none⟩ (.int .u64 h'.gen)).setCell ⟨A.st, 2, none⟩ (.int .i64 h'.root)).setCell ⟨A.st, 3, none⟩ (.int .i64 h'.slow)).setCell ⟨A.st, 4, none⟩ (.int .i64 h'.fast)).setCell ⟨A.st, 5, none⟩ (.int .i64 h'.chunk)).setCell ⟨A.st, 6, none⟩ (.int .i64 a')) := by
  have hn := k.ne.symm
  refine ⟨?_, ?_⟩
  · have h1 := heap_setCell_same W A.st 1 _ _ (.int .u64 h'.gen) k.hs
    have h2 := heap_setCell_same _ A.st 2 _ _ (.int .i64 h'.root) h1
    have h3 := heap_setCell_same _ A.st 3 _ _ (.int .i64 h'.slow) h2
    have h4 := heap_setCell_same _ A.st 4 _ _ (.int .i64 h'.fast) h3
    have h5 := heap_setCell_same _ A.st 5 _ _ (.int .i64 h'.chunk) h4
    have h6 := heap_setCell_same _ A.st 6 _ _ (.int .i64 a') h5
    exact h6.trans rfl
  · exact (heap_setCell_other _ _ _ _ hn).trans ((heap_setCell_other _ _ _ _ hn).trans ((heap_setCell_other _ _ _ _ hn).trans ((heap_setCell_other _ _ _ _ hn).trans ((heap_setCell_other _ _ _ _ hn).trans ((heap_setCell_other _ _ _ _ hn).trans k.hp)))))
end

/-- All but the blocks of A stands. -/
abbrev Fr (A : Ad) (W W' : World) : Prop := KeptIn (fun k => k < W.heap.size ∧ ¬ A.has k) W W'
theorem Fr.trans' {A : Ad} {U V W : World} (h : Fr A U V) (k : Fr A V W) : Fr A U W := h.trans (k.mono fun i hi => ⟨Nat.lt_of_lt_of_le hi.1 h.size, hi.2⟩)
theorem Fr.of_old {A : Ad} {V W : World} (h : KeptIn (· < V.heap.size) V W) : Fr A V W := h.mono fun _ hk => hk.1
theorem Fr.since {A : Ad} {B : Nat} {w V W : World} (k : KeptIn (· < B) w V) (hB : B ≤ V.heap.size) (hA : ∀ j, A.has j → B ≤ j) (h : Fr A V W) : KeptIn (· < B) w W :=
  k.trans (h.mono fun j hj => ⟨Nat.lt_of_lt_of_le hj hB, fun ha => Nat.lt_irrefl _ (Nat.lt_of_lt_of_le hj (hA j ha))⟩)

/-- A store and its device. -/
structure Sv (A : Ad) (N : Nat) (p : Pw) (S : List (List UInt8)) (M : Int → Option (List UInt8)) (h : Hd) (a : Nat) (P : List Pag) (W : World) : Prop where
  isD : IsD A.d A.m A.s A.b N S M W
  isP : IsP A.m p W
  isS : StAt A h a P W
  len : P.length = min (S.length / 16) 512
  two : 2 ≤ P.length
  good : goodH h = true
  ha : a ≤ 1
  sts : ∀ q, stOf P q ≤ 2
  txs : ∀ q, stOf P q = 1 → (txOf P q).length = 256

section
variable {A : Ad} {N : Nat} {p : Pw} {S : List (List UInt8)} {M : Int → Option (List UInt8)} {h : Hd} {a : Nat} {P : List Pag} {W W' : World}
theorem Sv.lts (k : Sv A N p S M h a P W) : ∀ j, A.has j → j < W.heap.size := by
  rintro j (rfl | rfl | rfl | rfl | rfl | rfl)
  · exact k.isD.ltd
  · exact k.isP.lt
  · exact k.isD.lts
  · exact k.isD.ltb
  · exact k.isS.lts
  · exact k.isS.ltp
theorem Sv.old (k : Sv A N p S M h a P W) (hk : KeptIn (· < W.heap.size) W W') : Sv A N p S M h a P W' :=
  ⟨k.isD.kept hk k.isD.ltd k.isD.lts k.isD.ltb, k.isP.kept hk k.isP.lt, k.isS.old hk, k.len, k.two, k.good, k.ha, k.sts, k.txs⟩
theorem Sv.plen (k : Sv A N p S M h a P W) : P.length ≤ 512 ∧ 16 * P.length ≤ S.length ∧ S.length ≤ 16384 := by
  have := k.len; have := k.isD.max; omega
/-- The blocks of the store and those of the device are others. -/
theorem Sv.apart (k : Sv A N p S M h a P W) : (A.st ≠ A.d ∧ A.st ≠ A.m ∧ A.st ≠ A.s ∧ A.st ≠ A.b) ∧ (A.pg ≠ A.d ∧ A.pg ≠ A.m ∧ A.pg ≠ A.s ∧ A.pg ≠ A.b) := by
  have e1 := k.isS.hs; have e2 := k.isS.hp; have e3 := k.isD.hd; have e4 := k.isD.hs
  have e5 : W.heap[A.m]? = _ := k.isP.1
  have key : ∀ {x y : Nat} {c c' : Array Value} {t t' : TypeId} {f f' : Nat × Nat}, W.heap[x]? = some (.cells c t f) → W.heap[y]? = some (.cells c' t' f') → t ≠ t' → x ≠ y := fun h1 h2 ht e => by
    rw [e, h2] at h1
    simp only [Option.some.injEq, Obj.cells.injEq] at h1
    exact ht h1.2.1.symm
  exact ⟨⟨key e1 e3 (by decide), key e1 e5 (by decide), key e1 e4 (by decide), k.isD.map.ne e1⟩, key e2 e3 (by decide), key e2 e5 (by decide), key e2 e4 (by decide), k.isD.map.ne e2⟩
/-- What changes the device alone leaves the store. -/
theorem Sv.dev {N' : Nat} {p' : Pw} {S' : List (List UInt8)} {M' : Int → Option (List UInt8)} (k : Sv A N p S M h a P W) (hd : IsD A.d A.m A.s A.b N' S' M' W') (hp : IsP A.m p' W') (hl : S'.length = S.length)
    (hk : KeptIn (fun k => k < W.heap.size ∧ k ≠ A.m ∧ k ≠ A.s ∧ k ≠ A.b) W W') : Sv A N' p' S' M' h a P W' ∧ Fr A W W' := by
  obtain ⟨⟨n1, n2, n3, n4⟩, n5, n6, n7, n8⟩ := k.apart
  exact ⟨⟨hd, hp, k.isS.kept hk ⟨k.isS.lts, n2, n3, n4⟩ ⟨k.isS.ltp, n6, n7, n8⟩, by rw [hl]; exact k.len, k.two, k.good, k.ha, k.sts, k.txs⟩,
    hk.mono fun j hj => ⟨hj.1, fun e => hj.2 (.inr (.inl e)), fun e => hj.2 (.inr (.inr (.inl e))), fun e => hj.2 (.inr (.inr (.inr (.inl e))))⟩⟩
/-- What changes the store's blocks alone leaves the device. -/
theorem Sv.sto {h' : Hd} {a' : Nat} {P' : List Pag} (k : Sv A N p S M h a P W) (hs : StAt A h' a' P' W') (hk : KeptIn (fun k => k < W.heap.size ∧ k ≠ A.st ∧ k ≠ A.pg) W W') (hl : P'.length = P.length) (hg : goodH h' = true) (ha : a' ≤ 1)
    (h1 : ∀ q, stOf P' q ≤ 2) (h2 : ∀ q, stOf P' q = 1 → (txOf P' q).length = 256) : Sv A N p S M h' a' P' W' ∧ Fr A W W' := by
  obtain ⟨⟨n1, n2, n3, n4⟩, n5, n6, n7, n8⟩ := k.apart
  exact ⟨⟨k.isD.kept hk ⟨k.isD.ltd, n1.symm, n5.symm⟩ ⟨k.isD.lts, n3.symm, n7.symm⟩ ⟨k.isD.ltb, n4.symm, n8.symm⟩, k.isP.kept hk ⟨k.isP.lt, n2.symm, n6.symm⟩, hs, by rw [hl]; exact k.len, by rw [hl]; exact k.two, hg, ha, h1, h2⟩,
    hk.mono fun j hj => ⟨hj.1, fun e => hj.2 (.inr (.inr (.inr (.inr (.inl e))))), fun e => hj.2 (.inr (.inr (.inr (.inr (.inr e)))))⟩⟩
end

attribute [local go_sem high] run_max2 run_min2

theorem stPagesOf (d m s b N : Nat) (S : List (List UInt8)) (M : Int → Option (List UInt8)) (w : World) (h : IsD d m s b N S M w) (n : Nat) (hn : min (S.length / 16) 512 = n) :
    Calls Tryz.prog 43 #[.pointer (some ⟨d, 0, none⟩)] w fun e w' => e = .returned (.int .i64 n) ∧ w = w' := by
  have CL := Lib.hid (dLen d m s b N S M w h)
  have hm := h.max
  obtain ⟨u, hu⟩ : ∃ u, S.length = u := ⟨_, rfl⟩
  rw [hu] at hm hn CL
  have HN : Hid (min ((u : Int) / 16) 512 = (n : Int)) := Lib.hid (by omega)
  have b0 : (0 : Int) ≤ (u : Int) := by omega
  have b1 : (u : Int) ≤ 16384 := by omega
  clear h hn hu hm
  go_enter Tryz.func43, Tryz.ntmps43
  go_wp2_with (go_at_call 78; refine CL.out.mono ?_; rintro e w' ⟨rfl, rfl⟩)
  go_ret
  exact ⟨by rw [HN.out]; rfl, rfl⟩

theorem stPages (A : Ad) (h : Hd) (a : Nat) (P : List Pag) (w : World) (k : StAt A h a P w) :
    Calls Tryz.prog 27 #[.pointer (some ⟨A.st, 0, none⟩)] w fun e w' => e = .returned (.int .i64 P.length) ∧ w = w' := by
  have c7 := k.c7
  obtain ⟨n, hn⟩ : ∃ n, P.length = n := ⟨_, rfl⟩
  rw [hn] at c7 ⊢
  clear k hn
  go_enter Tryz.func27, Tryz.ntmps27
  go_wp2
  go_ret
  exact ⟨rfl, rfl⟩

theorem stPagesNil (w : World) : Calls Tryz.prog 27 #[.pointer none] w fun e w' => e = .returned (.int .i64 0) ∧ w = w' := by
  go_enter Tryz.func27, Tryz.ntmps27
  go_wp2
  go_ret
  exact ⟨rfl, rfl⟩

/-- Whether a number is one of n pages that may hold a node. -/
def holdsB (n : Nat) (q : Int) : Bool := decide (1 ≤ q) && decide (q < (n : Int))

theorem stHolds (A : Ad) (h : Hd) (a : Nat) (P : List Pag) (q : Int) (w : World) (k : StAt A h a P w) :
    Calls Tryz.prog 50 #[.pointer (some ⟨A.st, 0, none⟩), .int .i64 q] w fun e w' => e = .returned (.bool (holdsB P.length q)) ∧ w = w' := by
  have c7 := k.c7
  obtain ⟨n, hn⟩ : ∃ n, P.length = n := ⟨_, rfl⟩
  rw [hn] at c7 ⊢
  clear k hn
  unfold holdsB
  by_cases h1 : 1 ≤ q
  · rw [decide_eq_true h1, Bool.true_and]
    obtain ⟨r, hr⟩ : ∃ r, decide (q < (n : Int)) = r := ⟨_, rfl⟩
    rw [hr]
    have HR := Lib.hid hr; clear hr
    go_enter Tryz.func50, Tryz.ntmps50
    go_wp2
    go_ret
    exact ⟨by rw [HR.out]; rfl, rfl⟩
  · rw [decide_eq_false h1, Bool.false_and]
    have h1' : q < 1 := by omega
    go_enter Tryz.func50, Tryz.ntmps50
    go_wp2
    go_ret
    exact ⟨rfl, rfl⟩

/-- What Head hands back. -/
def HeadS (B : Nat) (w : World) (o : Hd) (e : Ending) (w' : World) : Prop := e = .returned (headV o) ∧ KeptIn (· < B) w w'

theorem results_hd {fn : Func} {u : Tmp} (e : fn.results = #[.cell u 39]) (tmps : Array Value) (w : World) (x : Nat) (h : Hd)
    (hp : tmps.getD u undef = .pointer (some ⟨x, 0, none⟩)) (hb : BoxH x h w) : (results fn tmps).run Tryz.prog w = .ok (headV h) w :=
  results_cell_row e tmps w x 39 _ _ _ hp hb Tryz.underlying39 rfl (by kernel_rfl)

theorem stHead (A : Ad) (h : Hd) (a : Nat) (P : List Pag) (w : World) (k : StAt A h a P w) :
    Calls Tryz.prog 26 #[.pointer (some ⟨A.st, 0, none⟩)] w (HeadS w.heap.size w h) := by
  have k0 := k.old ((KeptIn.refl _ w).alloc (fun _ h => h) (.cells #[.int .u64 0, .int .i64 0, .int .i64 0, .int .i64 0, .int .i64 0] 39))
  have c1 := k0.c1; have c2 := k0.c2; have c3 := k0.c3; have c4 := k0.c4; have c5 := k0.c5
  obtain ⟨g, r, s, f, c⟩ := h
  simp only at c1 c2 c3 c4 c5
  clear k k0
  go_enter Tryz.func26, Tryz.ntmps26
  go_wp2_with fail
  try simp only [Exit.inBlock, Exit.then]
  refine bodyPost_ret (results_hd rfl _ _ w.heap.size ⟨g, r, s, f, c⟩ rfl (BoxH.new w ⟨g, r, s, f, c⟩)) rfl ?_
  unfold HeadS
  exact ⟨rfl, (KeptIn.refl _ w).alloc (fun _ h => h) _⟩

theorem stHeadNil (w : World) : Calls Tryz.prog 26 #[.pointer none] w (HeadS w.heap.size w noH) := by
  go_enter Tryz.func26, Tryz.ntmps26
  go_wp2_with fail
  try simp only [Exit.inBlock, Exit.then]
  refine bodyPost_ret (results_hd rfl _ _ w.heap.size noH rfl (BoxH.new w noH)) rfl ?_
  unfold HeadS
  exact ⟨rfl, (KeptIn.refl _ w).alloc (fun _ h => h) _⟩

end Go.Proofs.YtefompndoopceaaGreatDoor
