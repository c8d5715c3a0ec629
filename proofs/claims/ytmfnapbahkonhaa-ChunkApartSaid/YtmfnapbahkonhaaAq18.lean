/- ChunkApart: what each deed answers and leaves. -/
import Derived.Test.YtmfnapbahkonhaaAp18
set_option linter.unusedVariables false
namespace Go.Proofs.Ytmfnapbahkonhaa
open Go.RowKit

section
variable {w : World} {kk m k n c b : Nat} {vs vt : Value} {p : Pw} {T : Nat → Dsk} {C : Nat → List UInt8} {X : List (List UInt8)} {W : World}

/-- The spot of the q-th chunk. -/
def spQ (q : Nat) : Sp := ⟨((q / 10 : Nat) : Int), ((q % 10 : Nat) : Int)⟩
theorem Ap18.at (h : Ap18 w kk m k n c b vs vt p T C X W) {q : Nat} (hq : q < 20) : q / 10 < 2 ∧ q % 10 < slN T k (q / 10) := by
  have h1 : q / 10 < 2 := by omega
  have := h.sl h1
  omega
theorem Ap18.has (h : Ap18 w kk m k n c b vs vt p T C X W) {q : Nat} (hq : q < 20) : hasB T k (spQ q) = true := hasB_of (h.at hq).1 (h.at hq).2

theorem ap18Write (h : Ap18 w kk m k n c b vs vt p T C X W) (q c2 : Nat) (l : List UInt8) (C2 : Nat → List UInt8) (hq : q < 20) (hl : l.length = 16 * k) (hc : ∀ i, i < c2 → i ≠ q → i < c ∧ C2 i = C i) (hq2 : C2 q = l) (hb : b ≤ 1000) :
    Calls Try.prog 22 #[.pointer (some ⟨kk, 0, none⟩), spV (spQ q), .int .i64 0, .string ⟨l.toArray⟩] W fun e w' => e = .returned (.int .i64 0) ∧ (∃ p2 T2, Ap18 w kk m k n c2 (b + k) vs vt p2 T2 C2 X w') ∧ ∀ x, x < W.heap.size → x ≠ m → (∀ t, t < 2 → x ≠ (T t).b) → w'.heap[x]? = W.heap[x]? := by
  obtain ⟨h1, h2⟩ := h.at hq
  have h8 := h.lw.dk.sz8
  refine (ckWrite h.lw.dk (q / 10) (q % 10) 0 k l h1 h2 hl (by omega) (by have := h.nn _ h1; unfold maxLen; omega)).mono ?_
  rintro e w' ⟨rfl, hw⟩
  exact ⟨by rw [wrE_free k h.fr], h.wr h1 hw (h.all hl hc hq2), fun x h3 h4 h5 => hw.2.block x ⟨h3, h4, h5 _ h1⟩⟩

theorem ap18Last (h : Ap18 w kk m k n c b vs vt p T C X W) (q : Nat) (l : List UInt8) (C2 : Nat → List UInt8) (hq : q < 20) (hqc : q < c) (hl : l.length = 16 * 1) (hc : ∀ i, i < c → i ≠ q → C2 i = C i) (hq2 : C2 q = (C q).take (16 * (k - 1)) ++ l) (hb : b ≤ 1000) :
    Calls Try.prog 22 #[.pointer (some ⟨kk, 0, none⟩), spV (spQ q), .int .i64 ((k - 1 : Nat) : Int), .string ⟨l.toArray⟩] W fun e w' => e = .returned (.int .i64 0) ∧ ∃ p2 T2, Ap18 w kk m k n c (b + 1) vs vt p2 T2 C2 X w' := by
  obtain ⟨h1, h2⟩ := h.at hq
  have h8 := h.lw.dk.sz8
  have hk1 := h.lw.dk.sz1
  refine (ckWrite h.lw.dk (q / 10) (q % 10) (k - 1) 1 l h1 h2 hl (by omega) (by have := h.nn _ h1; unfold maxLen; omega)).mono ?_
  rintro e w' ⟨rfl, hw⟩
  exact ⟨by rw [wrE_free 1 h.fr], h.wr h1 hw (h.last hq hqc hl hc hq2)⟩

theorem ap18Read (h : Ap18 w kk m k n c b vs vt p T C X W) (q : Nat) (hq : q < 20) (hqc : q < c) :
    Calls Try.prog 13 #[.pointer (some ⟨kk, 0, none⟩), spV (spQ q), .int .i64 0, .int .i64 (k : Int)] W fun e w' => e = .returned (.tuple #[.string ⟨(C q).toArray⟩, .int .i64 0]) ∧ KeptIn (· < W.heap.size) W w' := by
  obtain ⟨h1, h2⟩ := h.at hq
  have := ckRead h.lw.dk (q / 10) (q % 10) 0 k h1 h2 (by omega) h.fr.1
  rw [show nows (T (q / 10)).S (T (q / 10)).M (q % 10 * k + 0) k = C q from h.tx q hqc] at this
  exact this

theorem ap18Zero (h : Ap18 w kk m k n c b vs vt p T C X W) (q : Nat) (C2 : Nat → List UInt8) (hq : q < 20) (hc : ∀ i, i < c → i ≠ q → C2 i = C i) (hq2 : C2 q = List.replicate (k * 16) 0) (hb : b ≤ 1000) :
    Calls Try.prog 17 #[.pointer (some ⟨kk, 0, none⟩), spV (spQ q)] W fun e w' => e = .returned (.int .i64 0) ∧ ∃ p2 T2, Ap18 w kk m k n c (b + k) vs vt p2 T2 C2 X w' :=
  ckZeroAny h.lw.dk (spQ q) 0 _ fun V hV => (ap18Write (h.old hV) q c (List.replicate (k * 16) 0) C2 hq (by rw [List.length_replicate, Nat.mul_comm]) (fun i h1 h2 => ⟨h1, hc i h1 h2⟩) hq2 hb).mono fun e w' ⟨h1, h2, _⟩ => ⟨h1, h2⟩

theorem ap18Copy (h : Ap18 w kk m k n c b vs vt p T C X W) (o q : Nat) (C2 : Nat → List UInt8) (ho : o < 20) (hoc : o < c) (hq : q < 20) (hl : (C o).length = 16 * k) (hc : ∀ i, i < c → i ≠ q → C2 i = C i) (hq2 : C2 q = C o) (hb : b ≤ 1000) :
    Calls Try.prog 15 #[.pointer (some ⟨kk, 0, none⟩), spV (spQ o), spV (spQ q)] W fun e w' => e = .returned (.int .i64 0) ∧ ∃ p2 T2, Ap18 w kk m k n c (b + k) vs vt p2 T2 C2 X w' :=
  ckCopyAny h.lw.dk (spQ o) (spQ q) (h.has ho) (h.has hq) 0 ⟨(C o).toArray⟩ _ (fun V hV => ap18Read (h.old hV) o ho hoc) fun V hV => (ap18Write (h.old hV) q c (C o) C2 hq hl (fun i h1 h2 => ⟨h1, hc i h1 h2⟩) hq2 hb).mono fun e w' ⟨h1, h2, _⟩ => ⟨h1, h2⟩
/-- The row of spots. -/
theorem Ap18.spots (h : Ap18 w kk m k n c b vs vt p T C X W) (hn : 0 < n) : ∃ g cap, vs = .slice (some ⟨g, 0, none⟩) n cap ∧ ∀ V, KeptIn (· < W.heap.size) W V → ∀ q, q < n → V.cell? ⟨g, q * 2, none⟩ = some (.int .i64 ((q / 10 : Nat) : Int)) ∧ V.cell? ⟨g, q * 2 + 1, none⟩ = some (.int .i64 ((q % 10 : Nat) : Int)) := by
  obtain ⟨g, cap, e, _, h2, h3, _⟩ := rowA_cells h.rs hn
  refine ⟨g, cap, e, fun V hV q hq => ?_⟩
  obtain ⟨a1, a2⟩ := cellsSp_at n q hq
  rw [Nat.mul_comm 2 q] at a1 a2
  exact ⟨(World.cell?_of_block (a := ⟨g, q * 2, none⟩) (hV.block g h2)).trans (h3 _ _ a1), (World.cell?_of_block (a := ⟨g, q * 2 + 1, none⟩) (hV.block g h2)).trans (h3 _ _ a2)⟩
/-- The row of texts. -/
theorem Ap18.texts (h : Ap18 w kk m k n c b vs vt p T C X W) (hn : 0 < X.length) : ∃ g cap, vt = .slice (some ⟨g, 0, none⟩) X.length cap ∧ (∀ V, KeptIn (· < W.heap.size) W V → ∀ q x, X[q]? = some x → V.cell? ⟨g, q, none⟩ = some (strV x)) ∧ ∀ V, KeptIn (· < W.heap.size) W V → ∀ q, V.frozen? ⟨g, q, none⟩ = false := by
  obtain ⟨g, cap, e, _, h2, h3, h4⟩ := rowA_cells h.rt hn
  refine ⟨g, cap, e, fun V hV q x hq => ?_, fun V hV q => ?_⟩
  · exact (World.cell?_of_block (a := ⟨g, q, none⟩) (hV.block g h2)).trans (h3 q (strV x) (by rw [List.getElem?_map, hq]; rfl))
  · exact (World.frozen?_of_block (a := ⟨g, q, none⟩) (hV.block g h2)).trans (h4 q)
end

theorem Ap18.textAt {w : World} {kk m k n c b g nn ct : Nat} {vs : Value} {p : Pw} {T : Nat → Dsk} {C : Nat → List UInt8} {X : List (List UInt8)} {W : World} (h : Ap18 w kk m k n c b vs (.slice (some ⟨g, 0, none⟩) nn ct) p T C X W) {q : Nat} {x : List UInt8} (hx : X[q]? = some x) :
    W.cell? ⟨g, q, none⟩ = some (.string ⟨x.toArray⟩) ∧ W.frozen? ⟨g, q, none⟩ = false := by
  obtain ⟨g', cap, e, h1, h2⟩ := h.texts (by have := (List.getElem?_eq_some_iff.1 hx).1; omega)
  simp only [Value.slice.injEq, Option.some.injEq, Addr.mk.injEq, and_true] at e
  obtain ⟨rfl, _⟩ := e
  exact ⟨h1 W (KeptIn.refl _ _) q x hx, h2 W (KeptIn.refl _ _) q⟩
theorem Ap18.spotAt {w : World} {kk m k n c b g nn cs : Nat} {vt : Value} {p : Pw} {T : Nat → Dsk} {C : Nat → List UInt8} {X : List (List UInt8)} {W : World} (h : Ap18 w kk m k n c b (.slice (some ⟨g, 0, none⟩) nn cs) vt p T C X W) {q : Nat} (hq : q < n) :
    W.cell? ⟨g, q * 2, none⟩ = some (.int .i64 ((q / 10 : Nat) : Int)) ∧ W.cell? ⟨g, q * 2 + 1, none⟩ = some (.int .i64 ((q % 10 : Nat) : Int)) := by
  obtain ⟨g', cap, e, h1⟩ := h.spots (by omega)
  simp only [Value.slice.injEq, Option.some.injEq, Addr.mk.injEq, and_true] at e
  obtain ⟨rfl, _⟩ := e
  exact h1 W (KeptIn.refl _ _) q hq

/-! ### one text anew -/
def upC (C : Nat → List UInt8) (q : Nat) (y : List UInt8) : Nat → List UInt8 := fun i => if i = q then y else C i
theorem upC_self (C : Nat → List UInt8) (q : Nat) (y : List UInt8) : upC C q y q = y := if_pos rfl
theorem upC_ne (C : Nat → List UInt8) (q : Nat) (y : List UInt8) (i : Nat) (h : i ≠ q) : upC C q y i = C i := if_neg h
/-- Behind the deed: twenty spots, twenty texts, and each chunk has its text. -/
def Apx (w : World) (kk m k : Nat) (vs vt : Value) (W : World) : Prop :=
  ∃ p T C X b, Ap18 w kk m k 20 20 b vs vt p T C X W ∧ X.length = 20 ∧ ∀ i, i < 20 → X[i]? = some (C i)
theorem apx_fin {w : World} {kk m k b q g : Nat} {vs vt : Value} {p : Pw} {T : Nat → Dsk} {C : Nat → List UInt8} {y : List UInt8} {X : List (List UInt8)} {W : World} (h : Ap18 w kk m k 20 20 b vs vt p T (upC C q y) X W) (hX : X.length = 20) (hC : ∀ i, i < 20 → X[i]? = some (C i)) (hq : q < 20) (hv : vt.ownBlock = some g) (hy : y.length = 16 * k) :
    Apx w kk m k vs vt (W.setCell ⟨g, q, none⟩ (strV y)) := by
  refine ⟨_, _, _, _, _, h.setT hv (by omega) hy, by rw [List.length_set]; exact hX, fun i hi => ?_⟩
  by_cases e : i = q
  · subst e
    rw [List.getElem?_set_self (by omega), upC_self]
  · rw [List.getElem?_set_ne (fun e2 => e e2.symm), upC_ne _ _ _ _ e]
    exact hC i hi
theorem apx_same {w : World} {kk m k : Nat} {vs vt : Value} {W W' : World} (h : Apx w kk m k vs vt W) (hk : KeptIn (· < W.heap.size) W W') : Apx w kk m k vs vt W' := by
  obtain ⟨p, T, C, X, b, h1, h2, h3⟩ := h
  exact ⟨p, T, C, X, b, h1.old hk, h2, h3⟩

end Go.Proofs.Ytmfnapbahkonhaa
