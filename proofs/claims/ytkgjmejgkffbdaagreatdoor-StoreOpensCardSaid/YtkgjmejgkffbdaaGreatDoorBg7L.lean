import Derived.Test.YtkgjmejgkffbdaaGreatDoorLw7L
/- What the laws of layer 7 begin with. -/
set_option linter.unusedVariables false
namespace Go.Proofs.YtkgjmejgkffbdaaGreatDoor
open Go.RowKit

theorem new_two (h k : Hd) (hh : goodH h = true) (hk : goodH k = true) (hlt : h.gen < k.gen) : newH (bytesH h) (bytesH k) = (k, 1, true) ∧ newH (bytesH k) (bytesH h) = (k, 0, true) := by
  obtain ⟨a1, a2⟩ := isH_bytes h hh
  obtain ⟨b1, b2⟩ := isH_bytes k hk
  constructor
  · simp [newH, a1, a2, b1, b2, Nat.not_le.2 hlt]
  · simp [newH, a1, a2, b1, b2, Nat.le_of_lt hlt]
theorem new_zero (h : Hd) (hh : goodH h = true) : newH (bytesH h) zeroS = (h, 0, true) := by
  obtain ⟨a1, a2⟩ := isH_bytes h hh
  have hz : isH zeroS = false := by
    rw [isH, show goodH (headIn zeroS) = false from by decide]
    simp
  simp [newH, a1, a2, hz]

theorem noP_free (n : Nat) (h : 2 ≤ n) : freeP (noP n) = some 1 :=
  freeP_is (Nat.le_refl _) (by rw [noP_length]; omega) (noP_st _ _) fun r h1 h2 => by omega

/-- A row of one integer that was made. -/
theorem ints_one (A : Ad) (W : World) (x : Int) (g : Nat) (hx : I64 x) (hg : W.heap[g]? = some (.cells #[.int .i64 x] 3 (0, 0))) (hA : ¬ A.has g) : IntsIn A W (some ⟨g, 0, none⟩) [x] :=
  ⟨by simp [maxLen], fun y hy => by (have : y = x := by simpa using hy); subst this; exact hx, fun _ => ⟨g, 0, rfl, (Array.getElem?_eq_some_iff.1 hg).1, hA, fun i hi => by
    obtain rfl : i = 0 := by simpa using hi
    rw [cell_of_row _ _ _ _ _ _ hg]
    rfl⟩⟩

theorem usedB_of {P : List Pag} {q : Nat} (h1 : 1 ≤ q) (h2 : q < P.length) (h3 : stOf P q ≠ 0) : usedB P (q : Int) = true := by
  unfold usedB holdsB
  simp only [Bool.and_eq_true, decide_eq_true_eq]
  refine ⟨⟨by omega, by omega⟩, ?_⟩
  rw [show ((q : Int)).toNat = q by omega]
  exact h3

/-- Everything that was laid since w stands apart from w. -/
structure Lo (w : World) (A : Ad) : Prop where
  lo : ∀ k, A.has k → w.heap.size ≤ k
theorem Lo.of {w : World} {d m s b st pg : Nat} (h1 : w.heap.size ≤ d) (h2 : w.heap.size ≤ m) (h3 : w.heap.size ≤ s) (h4 : w.heap.size ≤ b) (h5 : w.heap.size ≤ st) (h6 : w.heap.size ≤ pg) : Lo w ⟨d, m, s, b, st, pg⟩ :=
  ⟨by rintro k (rfl | rfl | rfl | rfl | rfl | rfl) <;> assumption⟩
theorem Lo.fr {w V W : World} {A : Ad} (h : Lo w A) (hk : KeptIn (· < w.heap.size) w V) (hf : Fr A V W) : KeptIn (· < w.heap.size) w W :=
  hk.trans (hf.mono fun k hk' => ⟨Nat.lt_of_lt_of_le hk' hk.size, fun ha => Nat.lt_irrefl _ (Nat.lt_of_lt_of_le hk' (h.lo k ha))⟩)
theorem Fd.since {w V W : World} {m s b : Nat} (h : Fd m s b V W) (hk : KeptIn (· < w.heap.size) w V) (h1 : w.heap.size ≤ m) (h2 : w.heap.size ≤ s) (h3 : w.heap.size ≤ b) : KeptIn (· < w.heap.size) w W :=
  hk.trans (h.mono fun k hk' => ⟨Nat.lt_of_lt_of_le hk' hk.size, by omega, by omega, by omega⟩)

/-- A device that was formatted, with its store, all laid since w: what the laws begin with. -/
def Begun (w : World) (u n : Nat) (sl f c : Int) (A : Ad) (p : Pw) (W : World) : Prop :=
  Sv A 0 p (formS (List.replicate u zeroS) (fun _ => none) ⟨1, 0, sl, f, c⟩) (fun _ => none) ⟨1, 0, sl, f, c⟩ 0 (noP n) W ∧ p.sure ∧ Lo w A ∧ KeptIn (· < w.heap.size) w W

/-- Gen and Root of a head that was handed back. -/
theorem run_gen (g : Int) (r s f c : Int) (V : World) : (Instr.field 39 (.agg #[.int .u64 g, .int .i64 r, .int .i64 s, .int .i64 f, .int .i64 c]) 0).run Tryz.prog V = .ok (.int .u64 g) V := by kernel_rfl
theorem run_root (g : Int) (r s f c : Int) (V : World) : (Instr.field 39 (.agg #[.int .u64 g, .int .i64 r, .int .i64 s, .int .i64 f, .int .i64 c]) 1).run Tryz.prog V = .ok (.int .i64 r) V := by kernel_rfl

theorem begNew (w : World) : Calls Tryz.prog 6 #[] w fun e w' => e = .returned (.pointer (some ⟨w.heap.size, 0, none⟩)) ∧ IsP w.heap.size pw0 w' ∧ KeptIn (· < w.heap.size) w w' := by
  refine (mNew w).mono ?_
  rintro e w' ⟨rfl, h1, h2⟩
  exact ⟨rfl, ⟨h1, by decide⟩, h2⟩

/-- What disc.New hands back to a law. -/
def DevS (w : World) (m : Nat) (p : Pw) (u : Nat) (V : World) (e : Ending) (w' : World) : Prop :=
  ∃ d s b, e = .returned (.pointer (some ⟨d, 0, none⟩)) ∧ IsD d m s b 0 (List.replicate u zeroS) (fun _ => none) w' ∧ IsP m p w' ∧ KeptIn (· < w.heap.size) w w' ∧ w.heap.size ≤ d ∧ w.heap.size ≤ s ∧ w.heap.size ≤ b ∧ V.heap.size ≤ d
theorem begDev (w V : World) (m : Nat) (p : Pw) (n : Int) (u : Nat) (hk : KeptIn (· < w.heap.size) w V) (hP : IsP m p V) (hu : min (max n 0) 16384 = (u : Int)) :
    Calls Tryz.prog 8 #[.pointer (some ⟨m, 0, none⟩), .int .i64 n] V (DevS w m p u V) := by
  refine (dNew m n u V hu).mono ?_
  rintro e w' ⟨d, s, b, rfl, h1, h2, h3, h4, h5⟩
  exact ⟨d, s, b, rfl, h1, hP.kept h2 hP.lt, hk.step h2, Nat.le_trans hk.size h3, Nat.le_trans hk.size h4, Nat.le_trans hk.size h5, h3⟩

/-- What Format hands back to a law. -/
def ForS (w : World) (d m s b u n : Nat) (sl f c : Int) (e : Ending) (w' : World) : Prop :=
  ∃ st pg p, e = .returned (.tuple #[.pointer (some ⟨st, 0, none⟩), .int .i64 0]) ∧ Begun w u n sl f c ⟨d, m, s, b, st, pg⟩ p w'
theorem begFor (w V : World) (d m s b u n : Nat) (p : Pw) (sl f c : Int) (hk : KeptIn (· < w.heap.size) w V) (hT : Tab w) (hD : IsD d m s b 0 (List.replicate u zeroS) (fun _ => none) V) (hP : IsP m p V) (hs : p.sure) (h1 : w.heap.size ≤ d) (h2 : w.heap.size ≤ m) (h3 : w.heap.size ≤ s) (h4 : w.heap.size ≤ b)
    (hg : goodH ⟨1, 0, sl, f, c⟩ = true) (hn : min (u / 16) 512 = n) (h5 : 2 ≤ n) :
    Calls Tryz.prog 7 #[.pointer (some ⟨d, 0, none⟩), .agg #[.int .i64 sl, .int .i64 f], .int .i64 c] V (ForS w d m s b u n sl f c) := by
  refine (stFormatOk d m s b 0 p _ _ V hD hP hs (by omega) (hT.kept hk hT.lt) sl f c hg n (by rw [List.length_replicate]; exact hn) h5).mono ?_
  rintro e w' ⟨st, pg, p', rfl, q1, q2, q3, q4, q5⟩
  exact ⟨st, pg, p', rfl, q1, q2, Lo.of h1 h2 h3 h4 (Nat.le_trans hk.size q4) (Nat.le_trans hk.size q5), q3.since hk h2 h3 h4⟩

end Go.Proofs.YtkgjmejgkffbdaaGreatDoor
