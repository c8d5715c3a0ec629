/- ChunkExact: what each call answers, both Decks side by side. -/
import Derived.Test.YtmfnapbahkonhaaEx18
set_option linter.unusedVariables false
namespace Go.Proofs.Ytmfnapbahkonhaa
open Go.RowKit

section
variable {w : World} {k m u sz b t : Nat} {D L : Nat → Nat} {p : Pw} {T : Nat → Dsk} {V : Nat → Value} {F : Nat → List (List UInt8)} {W : World}
theorem exIs (h : Ex18 w k m u sz b D L p T V F W) (x : Sp) :
    Calls Try.prog 12 #[.pointer (some ⟨u, 0, none⟩), .int .i64 x.ti, .int .i64 x.sl] W fun e w' => e = .returned (.bool (hasB T sz x)) ∧ KeptIn (· < W.heap.size) W w' := by
  have := r18Is h.iu h.lw.dk.sz1 h.lw.dk.sz8 x
  rwa [isU_eq h.fl] at this
theorem Ex18.in (h : Ex18 w k m u sz b D L p T V F W) {t s : Nat} (ht : t < 2) (hs : s < slN T sz t) : s * sz + sz ≤ (F t).length ∧ (F t).length ≤ 16384 ∧ s < 256 := by
  have h1 := slN_fits hs
  have h2 := (h.lw.dk.isD t ht).max
  rw [← h.fl t ht] at h1 h2
  exact ⟨h1, h2, Nat.lt_of_lt_of_le hs slN_le⟩
theorem exGet (h : Ex18 w k m u sz b D L p T V F W) (hy : Sy18 T F) (t s : Nat) (ht : t < 2) (hs : s < slN T sz t) :
    Calls Try.prog 14 #[.pointer (some ⟨u, 0, none⟩), .int .i64 (t : Int), .int .i64 (s : Int)] W fun e w' => e = .returned (.string ⟨(nows (T t).S (T t).M (s * sz) sz).toArray⟩) ∧ KeptIn (· < W.heap.size) W w' := by
  obtain ⟨h1, h2, h3⟩ := h.in ht hs
  have := r18Get h.iu h.lw.dk.sz1 h.lw.dk.sz8 t s ht h3 h1 h2 (h.f16 t ht)
  rwa [h.get hy ht hs] at this
theorem exGetF (h : Ex18 w k m u sz b D L p T V F W) (t s : Nat) (ht : t < 2) (hs : s < slN T sz t) :
    Calls Try.prog 14 #[.pointer (some ⟨u, 0, none⟩), .int .i64 (t : Int), .int .i64 (s : Int)] W fun e w' => e = .returned (.string ⟨(((F t).drop (s * sz)).take sz).flatten.toArray⟩) ∧ KeptIn (· < W.heap.size) W w' := by
  obtain ⟨h1, h2, h3⟩ := h.in ht hs
  exact r18Get h.iu h.lw.dk.sz1 h.lw.dk.sz8 t s ht h3 h1 h2 (h.f16 t ht)
theorem exSl (h : Ex18 w k m u sz b D L p T V F W) (t : Int) :
    Calls Try.prog 28 #[.pointer (some ⟨u, 0, none⟩), .int .i64 t] W fun e w' => e = .returned (.int .i64 (slI T sz t)) ∧ KeptIn (· < W.heap.size) W w' := by
  have := r18Slots h.iu h.lw.dk.sz1 h.lw.dk.sz8 t
  rwa [slU_eq h.fl] at this
theorem exPut (h : Ex18 w k m u sz b D L p T V F W) (t s a n : Nat) (l : List UInt8) (ht : t < 2) (hs : s < slN T sz t) (hf : a + n ≤ sz) (hl : l.length = 16 * n) :
    Calls Try.prog 16 #[.pointer (some ⟨u, 0, none⟩), .int .i64 (t : Int), .int .i64 (s : Int), .int .i64 (a : Int), .string ⟨l.toArray⟩] W fun e w' => e = .returned (.tuple #[]) ∧ Ex18 w k m u sz b D L p T V (upN F t (putF (F t) (s * sz + a) l n)) w' ∧ KeptIn (fun x => x < W.heap.size ∧ (V t).ownBlock ≠ some x) W w' := by
  obtain ⟨h1, h2, h3⟩ := h.in ht hs
  have h8 := h.lw.dk.sz8
  refine (r18Put h.iu h.lw.dk.sz1 h8 t s a n l ht h3 (by omega) (by omega) h2 hl).mono ?_
  rintro e w' ⟨rfl, g1, g2⟩
  refine ⟨rfl, h.put ht g1 g2 (fun i hi => ?_) fun i hi x hx => ?_, g2⟩
  · unfold upN
    split
    · rename_i e; rw [e, putF_length]
    · rfl
  · unfold upN at hx
    split at hx
    · exact putF_16 (h.f16 t ht) n hl n (Nat.le_refl _) x hx
    · exact h.f16 i hi x hx
theorem exLen (h : Ex18 w k m u sz b D L p T V F W) (t : Nat) (ht : t < 2) :
    Calls Try.prog 24 #[.pointer (some ⟨D t, 0, none⟩)] W fun e w' => e = .returned (.int .i64 (L t)) ∧ W = w' := by
  have := dLen _ _ _ _ _ _ _ _ (h.lw.dk.isD t ht)
  rwa [h.hd t ht, h.hl t ht] at this
theorem exRd (h : Ex18 w k m u sz b D L p T V F W) (hy : Sy18 T F) (t : Nat) (ht : t < 2) :
    Calls Try.prog 23 #[.pointer (some ⟨D t, 0, none⟩), .int .i64 0, .int .i64 (L t)] W fun e w' => e = .returned (.tuple #[.string ⟨(F t).flatten.toArray⟩, .int .i64 0]) ∧ KeptIn (· < W.heap.size) W w' := by
  have := dRead _ _ _ _ _ _ _ _ 0 0 (L t) W (h.lw.dk.isD t ht) h.lw.dk.isP h.fr.1 rfl (by rw [h.hl t ht]; omega)
  have e : nows (T t).S (T t).M 0 (L t) = (F t).flatten := by
    rw [hy t ht, nows_slice 0 (L t) (by rw [h.hl t ht]; omega), List.drop_zero, List.take_of_length_le (by rw [flushed_length, h.hl t ht]; exact Nat.le_refl _)]
    rfl
  rwa [h.hd t ht, e] at this
theorem exText (h : Ex18 w k m u sz b D L p T V F W) (t : Nat) (ht : t < 2) :
    Calls Try.prog 25 #[V t] W fun e w' => e = .returned (.string ⟨(F t).flatten.toArray⟩) ∧ W = w' := by
  obtain ⟨a, cap, hv, _⟩ := h.iu.shape ht
  have hmx := (h.lw.dk.isD t ht).max
  rw [← h.fl t ht] at hmx
  rw [hv]
  refine r4Text a cap (F t) W (fun h0 => ?_) (h.f16 t ht) hmx
  obtain ⟨g, cap', e, _, hc, _⟩ := h.iu.cells ht h0
  rw [hv] at e
  simp only [Value.slice.injEq] at e
  exact ⟨g, 0, e.1, fun j x hx => by rw [Nat.zero_add]; exact hc j x hx⟩
/-- How many sectors of a tier are loose. -/
def plN (T : Nat → Dsk) (L : Nat → Nat) (t : Nat) : Nat := (places (L t) (T t).M).length
theorem exLs (h : Ex18 w k m u sz b D L p T V F W) (t : Nat) (ht : t < 2) :
    Calls Try.prog 26 #[.pointer (some ⟨D t, 0, none⟩)] W fun e w' => ∃ a cap, e = .returned (.slice a (plN T L t) cap) ∧ KeptIn (· < W.heap.size) W w' := by
  have := dLoose _ _ _ _ _ _ _ _ (h.lw.dk.isD t ht)
  rw [h.hd t ht, h.hl t ht] at this
  refine this.mono ?_
  rintro e w' ⟨v, rfl, hv, hk⟩
  rcases hv.2 with ⟨rfl, h0⟩ | ⟨g, cap, cur, rfl, _⟩
  · exact ⟨none, 0, by rw [plN, h0], hk⟩
  · exact ⟨_, cap, rfl, hk⟩
theorem exLc (h : Ex18 w k m u sz b D L p T V F W) (t : Nat) (ht : t < 2) :
    Calls Try.prog 20 #[.pointer (some ⟨k, 0, none⟩), .int .i64 (t : Int)] W fun e w' => e = .returned (.int .i64 (plN T L t : Nat)) ∧ KeptIn (· < W.heap.size) W w' := by
  have := ckLoose h.lw.dk t ht
  rwa [h.hl t ht] at this
theorem pl_le (h : Ex18 w k m u sz b D L p T V F W) (t : Nat) (ht : t < 2) : plN T L t ≤ 16384 := by
  have h1 := places_le (L t) (T t).M
  have h2 := (h.lw.dk.isD t ht).max
  rw [h.hl t ht] at h2
  exact Nat.le_trans h1 h2
theorem Wr18.from {t n g : Nat} {l : List UInt8} {V' W' : World} (hV : KeptIn (· < W.heap.size) W V') (h : Wr18 k m sz p T t n g l V' W') : Wr18 k m sz p T t n g l W W' :=
  ⟨h.1, (hV.mono fun x hx => hx.1).trans (h.2.mono fun x hx => ⟨Nat.lt_of_lt_of_le hx.1 hV.size, hx.2⟩)⟩
theorem exWrite (h : Ex18 w k m u sz b D L p T V F W) (t s a n : Nat) (l : List UInt8) (ht : t < 2) (hs : s < slN T sz t) (hn : l.length = 16 * n) (hf : a + n ≤ sz) (hb : b ≤ 2000) :
    Calls Try.prog 22 #[.pointer (some ⟨k, 0, none⟩), .agg #[.int .i64 (t : Int), .int .i64 (s : Int)], .int .i64 (a : Int), .string ⟨l.toArray⟩] W fun e w' => e = .returned (.int .i64 0) ∧ Wr18 k m sz p T t n (s * sz + a) l W w' := by
  have h8 := h.lw.dk.sz8
  have := ckWrite h.lw.dk t s a n l ht hs hn hf (by have := h.nn t ht; unfold maxLen; omega)
  rwa [wrE_free n h.fr] at this
theorem exCopy (h : Ex18 w k m u sz b D L p T V F W) (t s t2 s2 : Nat) (ht : t < 2) (hs : s < slN T sz t) (ht2 : t2 < 2) (hs2 : s2 < slN T sz t2) (hb : b ≤ 2000) :
    Calls Try.prog 15 #[.pointer (some ⟨k, 0, none⟩), .agg #[.int .i64 (t : Int), .int .i64 (s : Int)], .agg #[.int .i64 (t2 : Int), .int .i64 (s2 : Int)]] W fun e w' => e = .returned (.int .i64 0) ∧ Wr18 k m sz p T t2 sz (s2 * sz + 0) (nows (T t).S (T t).M (s * sz) sz) W w' := by
  have h8 := h.lw.dk.sz8
  have hl : (nows (T t).S (T t).M (s * sz) sz).length = 16 * sz := nows_length _ _ _ _ fun i hi => now_length (h.lw.dk.isD t ht) _ (by have := slN_fits hs; omega)
  exact ckCopyAny h.lw.dk ⟨(t : Int), (s : Int)⟩ ⟨(t2 : Int), (s2 : Int)⟩ (hasB_of ht hs) (hasB_of ht2 hs2) 0 _ _
    (fun V hV => ckRead (h.lw.dk.old hV) t s 0 sz ht hs (by omega) h.fr.1)
    fun V hV => (exWrite (h.old hV) t2 s2 0 sz _ ht2 hs2 hl (by omega) hb).mono fun e w' ⟨h1, h2⟩ => ⟨h1, h2.from hV⟩
theorem exZero (h : Ex18 w k m u sz b D L p T V F W) (t s : Nat) (ht : t < 2) (hs : s < slN T sz t) (hb : b ≤ 2000) :
    Calls Try.prog 17 #[.pointer (some ⟨k, 0, none⟩), .agg #[.int .i64 (t : Int), .int .i64 (s : Int)]] W fun e w' => e = .returned (.int .i64 0) ∧ Wr18 k m sz p T t sz (s * sz + 0) (List.replicate (16 * sz) 0) W w' := by
  have h8 := h.lw.dk.sz8
  exact ckZeroAny h.lw.dk ⟨(t : Int), (s : Int)⟩ 0 _ fun V hV => by
    rw [Nat.mul_comm sz 16]
    exact (exWrite (h.old hV) t s 0 sz _ ht hs (by simp) (by omega) hb).mono fun e w' ⟨h1, h2⟩ => ⟨h1, h2.from hV⟩
theorem exZeroNo (h : Ex18 w k m u sz b D L p T V F W) (x : Sp) (hx : hasB T sz x = false) :
    Calls Try.prog 17 #[.pointer (some ⟨k, 0, none⟩), .agg #[.int .i64 x.ti, .int .i64 x.sl]] W fun e w' => e = .returned (.int .i64 1) ∧ KeptIn (· < W.heap.size) W w' :=
  ckZeroAny h.lw.dk x 1 _ fun V hV => (ckWriteArg (h.lw.dk.old hV) x 0 _ hx).mono fun e w' ⟨h1, h2⟩ => ⟨h1, hV.onM h2⟩
theorem exFlush (h : Ex18 w k m u sz b D L p T V F W) (hy : Sy18 T F) (t : Nat) (ht : t < 2) {y : Nat} {x : A18} (hyb : BoxA18 y x W) :
    Calls Try.prog 19 #[.pointer (some ⟨k, 0, none⟩), .int .i64 (t : Int)] W fun e w' => e = .returned (.int .i64 0) ∧ Ex18 w k m u sz b D L p.use (upT T t (T t).fl) V F w' ∧ Sy18 (upT T t (T t).fl) F ∧ BoxA18 y x w' := by
  refine (ckFlushOn h.lw.dk t ht h.fr.can).mono ?_
  rintro e w' ⟨rfl, h1, h2⟩
  exact ⟨rfl, h.fl2 ht h1 h2, hy.fl, hyb.fl2 h ht h2⟩
theorem exLc0 (h : Ex18 w k m u sz b D L p (upT T t (T t).fl) V F W) (ht : t < 2) :
    Calls Try.prog 20 #[.pointer (some ⟨k, 0, none⟩), .int .i64 (t : Int)] W fun e w' => e = .returned (.int .i64 0) ∧ KeptIn (· < W.heap.size) W w' := by
  have := exLc h t ht
  rwa [show plN (upT T t (T t).fl) L t = 0 by unfold plN; rw [upT_self]; simp [Dsk.fl, places]] at this
/-- A part of what a chunk has. -/
theorem nows_part (S : List (List UInt8)) (M : Int → Option (List UInt8)) (p a n sz : Nat) (hf : a + n ≤ sz) (h : ∀ i, i < sz → (now S M (p + i)).length = 16) :
    ((nows S M p sz).drop (16 * a)).take (16 * (a + n) - 16 * a) = nows S M (p + a) n := by
  obtain ⟨r, rfl⟩ : ∃ r, sz = a + n + r := ⟨sz - (a + n), by omega⟩
  have l1 : (nows S M p a).length = 16 * a := nows_length _ _ _ _ fun i hi => h i (by omega)
  have l2 : (nows S M (p + a) n).length = 16 * n := nows_length _ _ _ _ fun i hi => by
    have := h (a + i) (by omega)
    rwa [← Nat.add_assoc] at this
  rw [nows_add, nows_add, List.append_assoc, List.drop_left' l1, show 16 * (a + n) - 16 * a = 16 * n by omega, List.take_left' l2]
/-- What Read answers. -/
def RdC (T : Nat → Dsk) (sz : Nat) (a : Sp) (x n : Int) (rv : List UInt8) (fv : Int) : Prop :=
  (hasB T sz a = false ∧ rv = [] ∧ fv = 1) ∨ (hasB T sz a = true ∧ fits sz x n = false ∧ rv = [] ∧ fv = 9) ∨
    (hasB T sz a = true ∧ fits sz x n = true ∧ fv = 0 ∧ ∃ t s an n3 : Nat, a = ⟨(t : Int), (s : Int)⟩ ∧ x = (an : Int) ∧ n = (n3 : Int) ∧ t < 2 ∧ s < slN T sz t ∧ an + n3 ≤ sz ∧ rv = nows (T t).S (T t).M (s * sz + an) n3)
theorem exRead (h : Ex18 w k m u sz b D L p T V F W) (a : Sp) (x n : Int) (hx : I64 x) (hn : I64 n) :
    ∃ rv fv, Calls Try.prog 13 #[.pointer (some ⟨k, 0, none⟩), .agg #[.int .i64 a.ti, .int .i64 a.sl], .int .i64 x, .int .i64 n] W (fun e w' => e = .returned (.tuple #[.string ⟨rv.toArray⟩, .int .i64 fv]) ∧ KeptIn (· < W.heap.size) W w') ∧ RdC T sz a x n rv fv := by
  cases hb : hasB T sz a with
  | false => exact ⟨[], 1, ckReadArg h.lw.dk a x n hb, .inl ⟨hb, rfl, rfl⟩⟩
  | true =>
    cases hf : fits sz x n with
    | false => exact ⟨[], 9, ckReadRange h.lw.dk a x n hx hn hb hf, .inr (.inl ⟨hb, hf, rfl, rfl⟩)⟩
    | true =>
      obtain ⟨t, s, rfl, ht, hs⟩ := hasB_nat hb
      have h2 := hf
      simp only [fits, Bool.and_eq_true, decide_eq_true_eq] at h2
      obtain ⟨an, rfl⟩ : ∃ an : Nat, x = (an : Int) := ⟨x.toNat, by omega⟩
      obtain ⟨n3, rfl⟩ : ∃ n3 : Nat, n = (n3 : Int) := ⟨n.toNat, by omega⟩
      have h3 : an + n3 ≤ sz := by omega
      exact ⟨_, 0, ckRead h.lw.dk t s an n3 ht hs h3 h.fr.1, .inr (.inr ⟨hb, hf, rfl, t, s, an, n3, rfl, rfl, rfl, ht, hs, h3, rfl⟩)⟩
end

end Go.Proofs.Ytmfnapbahkonhaa
