/- Two devices with one power, and a Deck over them, all made by the call. -/
import Derived.Test.YtmfnapbahkonhaaCn18
import Derived.Test.YtmfnapbahkonhaaFi18
set_option linter.unusedVariables false
namespace Go.Proofs.Ytmfnapbahkonhaa
open Go.RowKit

def mkT (x y : Dsk) : Nat → Dsk := fun i => if i = 0 then x else y

/-- Two devices, made since w. -/
structure Du18 (w : World) (m : Nat) (p : Pw) (T : Nat → Dsk) (W : World) : Prop where
  isP : IsP m p W
  isD : ∀ t, t < 2 → IsD (T t).d m (T t).s (T t).b (T t).N (T t).S (T t).M W
  nd : (T 0).d ≠ (T 1).d
  ns : (T 0).s ≠ (T 1).s
  nb : (T 0).b ≠ (T 1).b
  lm : w.heap.size ≤ m
  ls : ∀ t, t < 2 → w.heap.size ≤ (T t).s ∧ w.heap.size ≤ (T t).b
  kept : KeptIn (· < w.heap.size) w W

theorem du18 {w : World} {d m s b N : Nat} {p : Pw} {S : List (List UInt8)} {M : Int → Option (List UInt8)} {W w' : World} (h : Dv w d m s b N p S M W) {d2 s2 b2 N2 : Nat} {S2 : List (List UInt8)} {M2 : Int → Option (List UInt8)}
    (h1 : IsD d2 m s2 b2 N2 S2 M2 w') (hk : KeptIn (· < W.heap.size) W w') (l1 : W.heap.size ≤ d2) (l2 : W.heap.size ≤ s2) (l3 : W.heap.size ≤ b2) :
    Du18 w m p (mkT ⟨d, s, b, N, S, M⟩ ⟨d2, s2, b2, N2, S2, M2⟩) w' := by
  have a1 := h.isD.ltd
  have a2 := h.isD.lts
  have a3 := h.isD.ltb
  have hz := h.size
  have ho := h.old hk
  refine ⟨ho.isP, fun t ht => ?_, ?_, ?_, ?_, h.lm, fun t ht => ?_, ho.kept⟩
  · rcases (by omega : t = 0 ∨ t = 1) with rfl | rfl
    · exact ho.isD
    · exact h1
  · show d ≠ d2; omega
  · show s ≠ s2; omega
  · show b ≠ b2; omega
  · rcases (by omega : t = 0 ∨ t = 1) with rfl | rfl
    · exact ⟨h.ls, h.lb⟩
    · exact ⟨Nat.le_trans hz l2, Nat.le_trans hz l3⟩

theorem uMade {w : World} {d m s b N : Nat} {p : Pw} {S : List (List UInt8)} {M : Int → Option (List UInt8)} {W : World} (h : Dv w d m s b N p S M W) (n : Int) (u : Nat) (hu : min (max n 0) 16384 = (u : Int)) :
    Calls Try.prog 29 #[.pointer (some ⟨m, 0, none⟩), .int .i64 n] W fun e w' => ∃ d2 s2 b2, e = .returned (.pointer (some ⟨d2, 0, none⟩)) ∧ Du18 w m p (mkT ⟨d, s, b, N, S, M⟩ ⟨d2, s2, b2, 0, List.replicate u zeroS, fun _ => none⟩) w' := by
  refine (dNew m n u W hu).mono ?_
  rintro e w' ⟨d2, s2, b2, rfl, h1, h2, h3, h4, h5⟩
  exact ⟨d2, s2, b2, rfl, du18 h h1 h2 h3 h4 h5⟩

theorem uOf0 {w : World} {m : Nat} {p : Pw} (W0 : World) (h0 : KeptIn (· < w.heap.size) w W0) (hp : IsP m p W0) (hm : w.heap.size ≤ m) (l : List UInt8) (u : Nat) (hl : l.length ≤ maxLen) (hu : u = min (l.length / 16) 16384) :
    Calls Try.prog 8 #[.pointer (some ⟨m, 0, none⟩), .string ⟨l.toArray⟩] W0 fun e w' => ∃ d s b, e = .returned (.pointer (some ⟨d, 0, none⟩)) ∧ Dv w d m s b 0 p (secs l u) (fun _ => none) w' := by
  refine (dOf m l u W0 hl hu).mono ?_
  rintro e w' ⟨d, s, b, rfl, h1, h2, h3, h4, h5⟩
  exact ⟨d, s, b, rfl, h1, hp.kept h2 hp.lt, Nat.le_trans h0.size h3, hm, Nat.le_trans h0.size h4, Nat.le_trans h0.size h5, h0.trans (h2.mono fun k hk => Nat.lt_of_lt_of_le hk h0.size)⟩
theorem uOf {w : World} {d m s b N : Nat} {p : Pw} {S : List (List UInt8)} {M : Int → Option (List UInt8)} {W : World} (h : Dv w d m s b N p S M W) (l : List UInt8) (u : Nat) (hl : l.length ≤ maxLen) (hu : u = min (l.length / 16) 16384) :
    Calls Try.prog 8 #[.pointer (some ⟨m, 0, none⟩), .string ⟨l.toArray⟩] W fun e w' => ∃ d2 s2 b2, e = .returned (.pointer (some ⟨d2, 0, none⟩)) ∧ Du18 w m p (mkT ⟨d, s, b, N, S, M⟩ ⟨d2, s2, b2, 0, secs l u, fun _ => none⟩) w' := by
  refine (dOf m l u W hl hu).mono ?_
  rintro e w' ⟨d2, s2, b2, rfl, h1, h2, h3, h4, h5⟩
  exact ⟨d2, s2, b2, rfl, du18 h h1 h2 h3 h4 h5⟩

/-- A Deck, made since w. -/
structure Lw18 (w : World) (k m sz : Nat) (p : Pw) (T : Nat → Dsk) (W : World) : Prop where
  dk : Dck k m sz p T W
  lm : w.heap.size ≤ m
  ls : ∀ t, t < 2 → w.heap.size ≤ (T t).s ∧ w.heap.size ≤ (T t).b
  kept : KeptIn (· < w.heap.size) w W

theorem uNew {w : World} {m : Nat} {p : Pw} {T : Nat → Dsk} {W : World} (h : Du18 w m p T W) (sz : Nat) (hn : canC (T 0).S.length (T 1).S.length sz = true) :
    Calls Try.prog 9 #[.pointer (some ⟨(T 0).d, 0, none⟩), .pointer (some ⟨(T 1).d, 0, none⟩), .int .i64 sz] W fun e w' => e = .returned (.tuple #[.pointer (some ⟨W.heap.size, 0, none⟩), .int .i64 0]) ∧ Lw18 w W.heap.size m sz p T w' := by
  refine (ckNew h.isP h.isD h.nd h.ns h.nb sz hn).mono ?_
  rintro e w' ⟨rfl, h1, h2⟩
  exact ⟨rfl, h1, h.lm, h.ls, h.kept.onM h2⟩

section
variable {w : World} {k m sz : Nat} {p p' : Pw} {T : Nat → Dsk} {W W' : World}
theorem Lw18.old (h : Lw18 w k m sz p T W) (hk : KeptIn (· < W.heap.size) W W') : Lw18 w k m sz p T W' := ⟨h.dk.old hk, h.lm, h.ls, h.kept.onM hk⟩
theorem Lw18.pow (h : Lw18 w k m sz p T W) (hP : IsP m p' W') (hk : KeptIn (· ≠ m) W W') : Lw18 w k m sz p' T W' :=
  ⟨h.dk.pow hP hk, h.lm, h.ls, h.kept.trans (hk.mono fun x hx => by have := h.lm; omega)⟩
theorem upT_ls {w : World} {T : Nat → Dsk} (h : ∀ t, t < 2 → w.heap.size ≤ (T t).s ∧ w.heap.size ≤ (T t).b) {t : Nat} (ht : t < 2) (x : Dsk) (hs : x.s = (T t).s) (hb : x.b = (T t).b) :
    ∀ i, i < 2 → w.heap.size ≤ (upT T t x i).s ∧ w.heap.size ≤ (upT T t x i).b := fun i hi => by
  unfold upT
  split
  · rw [hs, hb]; exact h t ht
  · exact h i hi
theorem Lw18.wr (h : Lw18 w k m sz p T W) {t n g : Nat} {l : List UInt8} (ht : t < 2) (hw : Wr18 k m sz p T t n g l W W') : Lw18 w k m sz (Pw.go n p).2 (upT T t ((T t).wr n (g : Int) l (Pw.go n p).1)) W' :=
  ⟨hw.1, h.lm, upT_ls h.ls ht _ rfl rfl, h.kept.trans (hw.2.mono fun x hx => by have := h.lm; have := (h.ls t ht).2; have := h.kept.size; exact ⟨by omega, by omega, by omega⟩)⟩
theorem Lw18.fl (h : Lw18 w k m sz p T W) {t : Nat} (ht : t < 2) (h1 : Dck k m sz p' (upT T t (T t).fl) W') (hk : KeptIn (fun x => x < W.heap.size ∧ x ≠ m ∧ x ≠ (T t).s ∧ x ≠ (T t).b) W W') : Lw18 w k m sz p' (upT T t (T t).fl) W' :=
  ⟨h1, h.lm, upT_ls h.ls ht _ rfl rfl, h.kept.trans (hk.mono fun x hx => by have := h.lm; have := h.ls t ht; have := h.kept.size; exact ⟨by omega, by omega, by omega, by omega⟩)⟩
end

end Go.Proofs.Ytmfnapbahkonhaa
