/- A device and its power, both made by the call: its methods in one form. -/
import Derived.Test.YtmfnapbahkonhaaDnew
import Derived.Test.YtmfnapbahkonhaaDwrite
import Derived.Test.YtmfnapbahkonhaaDread
import Derived.Test.YtmfnapbahkonhaaDsettle
set_option linter.unusedVariables false
namespace Go.Proofs.Ytmfnapbahkonhaa
open Go.RowKit

/-- The device d with the power m, both laid since the world w; what was there in w stands. -/
structure Dv (w : World) (d m s b N : Nat) (p : Pw) (S : List (List UInt8)) (M : Int → Option (List UInt8)) (W : World) : Prop where
  isD : IsD d m s b N S M W
  isP : IsP m p W
  ld : w.heap.size ≤ d
  lm : w.heap.size ≤ m
  ls : w.heap.size ≤ s
  lb : w.heap.size ≤ b
  kept : KeptIn (· < w.heap.size) w W

def Pw.cut (p : Pw) : Pw := ⟨false, p.lives, p.uses, p.fuse⟩
def Pw.come (p : Pw) : Pw := if p.on then p else ⟨true, wrap64 (p.lives + 1), p.uses, -1⟩
def pw0 : Pw := ⟨true, 1, 0, -1⟩

section
variable {w : World} {d m s b N : Nat} {p : Pw} {S : List (List UInt8)} {M : Int → Option (List UInt8)} {W W' : World}

/-- Where all that is there stands, a device is one still. -/
theorem Dv.old (h : Dv w d m s b N p S M W) (hk : KeptIn (· < W.heap.size) W W') : Dv w d m s b N p S M W' :=
  ⟨h.isD.kept hk h.isD.ltd h.isD.lts h.isD.ltb, h.isP.kept hk h.isP.lt, h.ld, h.lm, h.ls, h.lb, h.kept.trans (hk.mono fun k hk => Nat.lt_of_lt_of_le hk h.kept.size)⟩

theorem Dv.size (h : Dv w d m s b N p S M W) : w.heap.size ≤ W.heap.size := h.kept.size

theorem vNew (W0 : World) (h0 : KeptIn (· < w.heap.size) w W0) :
    Calls Try.prog 7 #[] W0 fun e w' => ∃ m, e = .returned (.pointer (some ⟨m, 0, none⟩)) ∧ IsP m pw0 w' ∧ w.heap.size ≤ m ∧ KeptIn (· < w.heap.size) w w' := by
  refine (mNew W0).mono ?_
  rintro e w' ⟨rfl, h1, h2⟩
  exact ⟨_, rfl, ⟨h1, by decide⟩, h0.size, h0.trans (h2.mono fun k hk => Nat.lt_of_lt_of_le hk h0.size)⟩

theorem vMade (W0 : World) (h0 : KeptIn (· < w.heap.size) w W0) (hp : IsP m p W0) (hm : w.heap.size ≤ m) (n : Int) (u : Nat) (hu : min (max n 0) 16384 = (u : Int)) :
    Calls Try.prog 29 #[.pointer (some ⟨m, 0, none⟩), .int .i64 n] W0 fun e w' => ∃ d s b, e = .returned (.pointer (some ⟨d, 0, none⟩)) ∧ Dv w d m s b 0 p (List.replicate u zeroS) (fun _ => none) w' := by
  refine (dNew m n u W0 hu).mono ?_
  rintro e w' ⟨d, s, b, rfl, h1, h2, h3, h4, h5⟩
  exact ⟨d, s, b, rfl, h1, hp.kept h2 hp.lt, Nat.le_trans h0.size h3, hm, Nat.le_trans h0.size h4, Nat.le_trans h0.size h5, h0.trans (h2.mono fun k hk => Nat.lt_of_lt_of_le hk h0.size)⟩

theorem vWrite (h : Dv w d m s b N p S M W) (x : Int) (l : List UInt8) (n : Nat) (hl : l.length ≤ maxLen) (hn : l.length = 16 * n) (hf : fits S.length x n = true) (hN : N + n < maxLen) :
    Calls Try.prog 40 #[.pointer (some ⟨d, 0, none⟩), .int .i64 x, .string ⟨l.toArray⟩] W fun e w' => e = .returned (.int .i64 (if (Pw.go n p).1 = n then 0 else 4)) ∧ Dv w d m s b (N + n) (Pw.go n p).2 S (putN M x l (Pw.go n p).1) w' := by
  refine (dWrite d m s b N p S M x l n W h.isD h.isP hl hn hf hN).mono ?_
  rintro e w' ⟨rfl, h1, h2, h3⟩
  have := h.lm; have := h.lb; have := h.kept.size
  exact ⟨rfl, h1, h2, h.ld, h.lm, h.ls, h.lb, h.kept.trans (h3.mono fun k hk => ⟨by omega, by omega, by omega⟩)⟩

theorem vRead (h : Dv w d m s b N p S M W) (hon : p.on = true) (x : Int) (a n : Nat) (hxa : x = (a : Int)) (hf : a + n ≤ S.length) :
    Calls Try.prog 23 #[.pointer (some ⟨d, 0, none⟩), .int .i64 x, .int .i64 n] W fun e w' => e = .returned (.tuple #[.string ⟨(nows S M a n).toArray⟩, .int .i64 0]) ∧ Dv w d m s b N p S M w' := by
  refine (dRead d m s b N p S M x a n W h.isD h.isP hon hxa hf).mono ?_
  rintro e w' ⟨rfl, h1⟩
  exact ⟨rfl, h.old h1⟩


/-- A slice of integers, the call's own. -/
def IntsAt (B : Nat) (v : Value) (ks : List Int) (W : World) : Prop := W.ownsRow B 3 1 v ks.length (ks.map encZ)

theorem IntsAt.shape {B : Nat} {v : Value} {ks : List Int} {W : World} (h : IntsAt B v ks W) : ∃ a cap, v = .slice a ks.length cap ∧ (0 < ks.length → ∃ g, a = some ⟨g, 0, none⟩ ∧ B ≤ g ∧ g < W.heap.size ∧ ∀ j k, ks[j]? = some k → W.cell? ⟨g, j, none⟩ = some (.int .i64 k)) := by
  rcases h.2 with ⟨rfl, h0⟩ | ⟨g, cap, cur, rfl, hg, hb, hc, _, _, ht⟩
  · exact ⟨none, 0, by rw [h0], fun h => absurd h0 (by omega)⟩
  · refine ⟨_, cap, rfl, fun _ => ⟨g, rfl, hg, (Array.getElem?_eq_some_iff.1 hb).1, fun j k hj => ?_⟩⟩
    rw [cell_of_row W g j _ _ _ hb]
    have h1 : (cur.toList.take (ks.length * 1))[j]? = some (.int .i64 k) := by rw [ht]; simp [hj]
    rw [List.getElem?_take] at h1
    split at h1
    · simpa using h1
    · cases h1

theorem vLoose (h : Dv w d m s b N p S M W) :
    Calls Try.prog 26 #[.pointer (some ⟨d, 0, none⟩)] W fun e w' => ∃ v, e = .returned v ∧ IntsAt W.heap.size v (places S.length M) w' ∧ Dv w d m s b N p S M w' := by
  refine (dLoose d m s b N S M W h.isD).mono ?_
  rintro e w' ⟨v, rfl, h1, h2⟩
  exact ⟨v, rfl, h1, h.old h2⟩

theorem vFlushOn (h : Dv w d m s b N p S M W) (hc : p.can = true) :
    Calls Try.prog 39 #[.pointer (some ⟨d, 0, none⟩)] W fun e w' => e = .returned (.int .i64 0) ∧ Dv w d m s b 0 p.use (flushed S M) (fun _ => none) w' := by
  refine (dFlushOn d m s b N p S M W h.isD h.isP hc).mono ?_
  rintro e w' ⟨rfl, h1, h2, h3⟩
  have := h.lm; have := h.lb; have := h.ls; have := h.kept.size
  exact ⟨rfl, h1, h2, h.ld, h.lm, h.ls, h.lb, h.kept.trans (h3.mono fun k hk => ⟨by omega, by omega, by omega, by omega⟩)⟩

theorem vFlushOff (h : Dv w d m s b N p S M W) (hc : p.can = false) :
    Calls Try.prog 39 #[.pointer (some ⟨d, 0, none⟩)] W fun e w' => e = .returned (.int .i64 4) ∧ Dv w d m s b N p.use S M w' := by
  refine (dFlushOff d m s b N p S M W h.isD h.isP hc).mono ?_
  rintro e w' ⟨rfl, h1, h2⟩
  obtain ⟨n1, n2, n3⟩ := h.isP.1.ne h.isD
  have := h.lm
  exact ⟨rfl, h.isD.kept h2 n1.symm n2.symm n3.symm, h1, h.ld, h.lm, h.ls, h.lb, h.kept.trans (h2.mono fun k hk => by omega)⟩




end

/-- A sector of one byte. -/
def solid (x : UInt8) : List UInt8 := List.replicate 16 x
theorem solid_length (x : UInt8) : (solid x).length = 16 := by simp [solid]

end Go.Proofs.Ytmfnapbahkonhaa
