/- Order: an order's line. -/
import Derived.Test.YtlldmebjgidbaaaDoorPb20
set_option linter.unusedVariables false
namespace Go.Proofs.YtlldmebjgidbaaaDoor
open Go.RowKit

/-- A slice that reads as the numbers ns. -/
def RdN (a : Option Addr) (ns : List Int) (W : World) : Prop := ∀ (j : Nat) n, ns[j]? = some n → ∃ g, a = some ⟨g, 0, none⟩ ∧ W.cell? ⟨g, j, none⟩ = some (.int .i64 n)
def RdT (a : Option Addr) (ts : List (List UInt8)) (W : World) : Prop := ∀ (j : Nat) t, ts[j]? = some t → ∃ g, a = some ⟨g, 0, none⟩ ∧ W.cell? ⟨g, j, none⟩ = some (.string ⟨t.toArray⟩)

theorem cell_old {w w' : World} {g j : Nat} {v : Value} (k : KeptIn (· < w.heap.size) w w') (h : w.cell? ⟨g, j, none⟩ = some v) : w'.cell? ⟨g, j, none⟩ = some v := by
  have hlt : g < w.heap.size := by
    rcases Nat.lt_or_ge g w.heap.size with h' | h'
    · exact h'
    · unfold World.cell? at h
      rw [Array.getElem?_eq_none h'] at h
      exact absurd h (by simp)
  unfold World.cell? at h ⊢
  rw [k.block _ hlt]
  exact h

theorem RdN.old {a : Option Addr} {ns : List Int} {w w' : World} (h : RdN a ns w) (k : KeptIn (· < w.heap.size) w w') : RdN a ns w' := fun j n hn =>
  let ⟨g, h1, h2⟩ := h j n hn
  ⟨g, h1, cell_old k h2⟩
theorem RdT.old {a : Option Addr} {ts : List (List UInt8)} {w w' : World} (h : RdT a ts w) (k : KeptIn (· < w.heap.size) w w') : RdT a ts w' := fun j n hn =>
  let ⟨g, h1, h2⟩ := h j n hn
  ⟨g, h1, cell_old k h2⟩

theorem RowN.rd {v : Value} {ns : List Int} {B : Nat} {w : World} (h : RowN v ns B w) : ∃ a, v = .slice a ns.length ns.length ∧ RdN a ns w := by
  rcases h with ⟨rfl, rfl⟩ | ⟨b, _, rfl, hb⟩
  · exact ⟨none, rfl, fun j n hn => by simp at hn⟩
  · exact ⟨_, rfl, fun j n hn => ⟨b, rfl, num_cell hb j n hn⟩⟩
theorem RowT.rd {v : Value} {ts : List (List UInt8)} {B : Nat} {w : World} (h : RowT v ts B w) : ∃ a, v = .slice a ts.length ts.length ∧ RdT a ts w := by
  rcases h with ⟨rfl, rfl⟩ | ⟨b, _, rfl, hb⟩
  · exact ⟨none, rfl, fun j n hn => by simp at hn⟩
  · exact ⟨_, rfl, fun j n hn => ⟨b, rfl, txt_cell hb j n hn⟩⟩

theorem txtC_len (xs : List (List UInt8)) : (txtC xs).length = xs.length := by simp [txtC]

/-- A row of texts that a call makes since block B. -/
def SoJ (B : Nat) (V : World) (xs : List (List UInt8)) (v : Value) (W : World) : Prop := W.ownsRow B 9 1 v xs.length (txtC xs) ∧ KeptIn (· < B) V W ∧ B ≤ W.heap.size
section
variable {B : Nat} {V W W' w8 : World} {v v' : Value} {ob : Obj} {xs : List (List UInt8)}
theorem SoJ.lt (h : SoJ B V xs v W) : ∀ g, v.ownBlock = some g → B ≤ g ∧ g < W.heap.size := by
  intro g hg
  rcases h.1.2 with ⟨rfl, _⟩ | ⟨g', cap, cur, rfl, h1, h2, _⟩
  · simp [Value.ownBlock] at hg
  · simp [Value.ownBlock] at hg
    subst hg
    exact ⟨h1, (Array.getElem?_eq_some_iff.1 h2).1⟩
theorem SoJ.old (h : SoJ B V xs v W) (hk : KeptIn (· < W.heap.size) W W') : SoJ B V xs v W' := by
  refine ⟨⟨h.1.1, ?_⟩, h.2.1.trans (hk.mono fun k hk' => Nat.lt_of_lt_of_le hk' h.2.2), Nat.le_trans h.2.2 hk.size⟩
  rcases h.1.2 with h1 | ⟨g, cap, cur, rfl, h1, h2, h3⟩
  · exact .inl h1
  · exact .inr ⟨g, cap, cur, rfl, h1, by rw [hk.block g (Array.getElem?_eq_some_iff.1 h2).1]; exact h2, h3⟩
theorem SoJ.next (h : SoJ B V xs v W) (hB : ∀ k, k < B → k < V.heap.size) {x : List UInt8} (hown : w8.ownsRow B 9 1 v' (xs.length + 1) (txtC xs ++ [.string ⟨x.toArray⟩]))
    (hgrow : (W.alloc ob).grownBy w8 v.ownBlock) : SoJ B V (xs ++ [x]) v' w8 := by
  refine ⟨?_, ?_, ?_⟩
  · rw [List.length_append, show txtC (xs ++ [x]) = txtC xs ++ [.string ⟨x.toArray⟩] by simp [txtC]]
    exact hown
  · exact (h.2.1.trans (((KeptIn.refl _ W).alloc (fun _ h => h) _).mono fun k hk => Nat.lt_of_lt_of_le hk h.2.2)).grown hB hgrow (fun g e => Nat.not_lt.2 (h.lt g e).1)
  · have := hgrow.size
    have h2 := h.2.2
    rw [show (W.alloc ob).heap.size = W.heap.size + 1 by simp] at this
    omega
theorem SoJ.one (hk : KeptIn (· < B) V W) (hB : B ≤ W.heap.size) (x : List UInt8) (hBV : ∀ k, k < B → k < V.heap.size) : SoJ B V [x] (.slice (some ⟨W.heap.size, 0, none⟩) 1 1) (W.alloc (.cells #[.string ⟨x.toArray⟩] 9)) := by
  refine ⟨⟨rfl, .inr ⟨W.heap.size, 1, #[.string ⟨x.toArray⟩], rfl, hB, heap_alloc_new _ _, Nat.le_refl _, by unfold maxLen; omega, rfl, rfl⟩⟩, hk.alloc hBV _, by simp; omega⟩
theorem SoJ.read (h : SoJ B V xs v W) (hne : xs ≠ []) : ∃ g cap, v = .slice (some ⟨g, 0, none⟩) xs.length cap ∧ xs.length ≤ cap ∧ g < W.heap.size ∧ ∀ (j : Nat) x, xs[j]? = some x → W.cell? ⟨g, 0 + j, none⟩ = some (.string ⟨x.toArray⟩) := by
  rcases h.1.2 with ⟨rfl, h0⟩ | ⟨g, cap, cur, rfl, h1, h2, h3, h4, h5, h6⟩
  · exact absurd (List.length_eq_zero_iff.1 h0) hne
  · refine ⟨g, cap, rfl, h3, (Array.getElem?_eq_some_iff.1 h2).1, fun j x hx => ?_⟩
    have hj : j < xs.length := (List.getElem?_eq_some_iff.1 hx).1
    have h7 : (txtC xs)[j]? = some (.string ⟨x.toArray⟩) := by simp [txtC, hx]
    rw [← h6, List.getElem?_take, if_pos (by omega), Array.getElem?_toList] at h7
    rw [Nat.zero_add]
    unfold World.cell?
    rw [h2]
    exact h7
end

theorem infoStr : (Tryd.prog.info? 9).map (fun i => (i.zero, i.size, i.bytes)) = some (some (.string ByteArray.empty), 1, 16) := by kernel_rfl

/-- An order's line, as it is told. -/
def wdsO (o : Od) : List (List UInt8) := wordL o.k :: (o.ns.map Lib.itoa ++ o.ts.map runesOf)
def textL (o : Od) : List UInt8 := Lib.join (wdsO o) [32]
def txtR (o : Od) : List UInt8 := if canT o.ts = true then textL o else []

theorem runesOf_len (t : List UInt8) : (runesOf t).length ≤ 3 * t.length + 1 := by
  unfold runesOf
  split
  · simp
  · rw [rs_len]; omega

theorem wordL_len (k : Nat) : (wordL k).length ≤ 7 := by
  by_cases h : k < 15
  · have : ∀ k, k < 15 → (wordL k).length ≤ 7 := by decide
    exact this k h
  · unfold wordL
    rw [List.getD_eq_getElem?_getD, List.getElem?_eq_none (by simp; omega)]
    simp

theorem lens_le (L : List (List UInt8)) (m : Nat) (h : ∀ x ∈ L, x.length ≤ m) : Lib.lens L ≤ m * L.length := by
  induction L with
  | nil => simp [Lib.lens]
  | cons x r ih =>
    have h1 := h x (by simp)
    have h2 := ih (fun y hy => h y (by simp [hy]))
    simp only [Lib.lens, List.map_cons, List.sum_cons, List.length_cons] at h2 ⊢
    rw [Nat.mul_succ]
    omega

theorem itoa_len (n : Int) (h0 : -9223372036854775808 ≤ n) (h1 : n ≤ 9223372036854775807) : (Lib.itoa n).length ≤ 20 := by
  unfold Lib.itoa
  split
  · have := dec_len n.natAbs (by omega)
    simp; omega
  · have := dec_len n.toNat (by omega)
    omega

theorem textL_len (o : Od) (h : o.ok) (hc : canT o.ts = true) : (textL o).length ≤ 20000 := by
  unfold textL wdsO
  rw [Lib.join_cons, List.length_append, Lib.joinTail_length]
  have h1 := wordL_len o.k
  have hn : o.ns.length ≤ 3 ∧ o.ts.length ≤ 3 := by
    rw [h.n, h.t]
    have hk := h.k
    revert hk
    generalize o.k = k
    intro hk
    have : ∀ k, k < 15 → cn k ≤ 3 ∧ ct k ≤ 3 := by decide
    exact this k hk
  have h2 := lens_le (o.ns.map Lib.itoa ++ o.ts.map runesOf) 1600 (fun x hx => by
    rcases List.mem_append.1 hx with hx | hx
    · obtain ⟨n, hn, rfl⟩ := List.mem_map.1 hx
      have := itoa_len n (h.i n hn).1 (h.i n hn).2
      omega
    · obtain ⟨t, ht, rfl⟩ := List.mem_map.1 hx
      have h3 := runesOf_len t
      have h4 := of_decide_eq_true (List.all_eq_true.1 hc t ht)
      omega)
  have h5 : (o.ns.map Lib.itoa ++ o.ts.map runesOf).length ≤ 6 := by rw [List.length_append, List.length_map, List.length_map]; omega
  have h6 : 1600 * (o.ns.map Lib.itoa ++ o.ts.map runesOf).length ≤ 1600 * 6 := Nat.mul_le_mul_left _ h5
  simp only [List.length_cons, List.length_nil]
  omega

end Go.Proofs.YtlldmebjgidbaaaDoor
