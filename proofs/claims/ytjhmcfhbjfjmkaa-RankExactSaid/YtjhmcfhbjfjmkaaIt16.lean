/- Chunks in a list, by their five fields: their cells, rows of them, levels, who is picked. -/
import Derived.Test.YtjhmcfhbjfjmkaaKept
import Derived.Test.YtjhmcfhbjfjmkaaChecked
import Derived.OwnWalk
import Derived.Deep.AppendLies
import Derived.OpenShut
set_option linter.unusedVariables false
namespace Go.Proofs.Ytjhmcfhbjfjmkaa
open Go.RowKit

structure It16 where
  ch : Int
  he : Int
  ti : Int
  pn : Bool
  bu : Bool

def itV (x : It16) : Value := .agg #[.int .i64 x.ch, .int .i64 x.he, .int .i64 x.ti, .bool x.pn, .bool x.bu]
def cellsI (l : List It16) : List Value := l.flatMap fun x => [.int .i64 x.ch, .int .i64 x.he, .int .i64 x.ti, .bool x.pn, .bool x.bu]
def it0 : It16 := ⟨0, 0, 0, false, false⟩
/-- A field's numbers fit. -/
def GdI (x : It16) : Prop := (Lit.int .i64 x.ch).wf = true ∧ (Lit.int .i64 x.he).wf = true ∧ (Lit.int .i64 x.ti).wf = true

theorem cellsI_snoc (l : List It16) (x : It16) : cellsI (l ++ [x]) = cellsI l ++ [.int .i64 x.ch, .int .i64 x.he, .int .i64 x.ti, .bool x.pn, .bool x.bu] := by simp [cellsI]
theorem cellsI_at (L : List It16) : ∀ i (h : i < L.length), (cellsI L)[i * 5]? = some (.int .i64 L[i].ch) ∧ (cellsI L)[i * 5 + 1]? = some (.int .i64 L[i].he) ∧ (cellsI L)[i * 5 + 2]? = some (.int .i64 L[i].ti) ∧
    (cellsI L)[i * 5 + 3]? = some (.bool L[i].pn) ∧ (cellsI L)[i * 5 + 4]? = some (.bool L[i].bu) := by
  induction L with
  | nil => intro i h; cases h
  | cons q r ih =>
    intro i h
    cases i with
    | zero => exact ⟨rfl, rfl, rfl, rfl, rfl⟩
    | succ i =>
      have := ih i (by simpa using h)
      rw [show (i + 1) * 5 = i * 5 + 4 + 1 by omega]
      exact this

/-- The cells of an element at an address. -/
structure At16 (W : World) (b o : Nat) (x : It16) : Prop where
  ch : W.cell? ⟨b, o, none⟩ = some (.int .i64 x.ch)
  he : W.cell? ⟨b, o + 1, none⟩ = some (.int .i64 x.he)
  ti : W.cell? ⟨b, o + 2, none⟩ = some (.int .i64 x.ti)
  pn : W.cell? ⟨b, o + 3, none⟩ = some (.bool x.pn)
  bu : W.cell? ⟨b, o + 4, none⟩ = some (.bool x.bu)
theorem At16.kept {W W' : World} {b o : Nat} {x : It16} (h : At16 W b o x) (hk : W'.heap[b]? = W.heap[b]?) : At16 W' b o x :=
  ⟨(World.cell?_of_block (a := ⟨b, o, none⟩) hk).trans h.ch, (World.cell?_of_block (a := ⟨b, o + 1, none⟩) hk).trans h.he, (World.cell?_of_block (a := ⟨b, o + 2, none⟩) hk).trans h.ti, (World.cell?_of_block (a := ⟨b, o + 3, none⟩) hk).trans h.pn, (World.cell?_of_block (a := ⟨b, o + 4, none⟩) hk).trans h.bu⟩

/-- A slice reads as these. -/
structure IsI (W : World) (a : Option Addr) (L : List It16) : Prop where
  len : L.length ≤ maxLen
  good : ∀ x ∈ L, GdI x
  cells : 0 < L.length → ∃ b off, a = some ⟨b, off, none⟩ ∧ b < W.heap.size ∧ ∀ i (h : i < L.length), At16 W b (off + i * 5) L[i]
theorem IsI.kept {X : Nat → Prop} {W W' : World} {a : Option Addr} {L : List It16} (h : IsI W a L) (hk : KeptIn X W W') (hX : ∀ k, k < W.heap.size → X k) : IsI W' a L :=
  ⟨h.len, h.good, fun hp => by
    obtain ⟨b, off, e, hb, hc⟩ := h.cells hp
    have hb' := hk.block b (hX b hb)
    exact ⟨b, off, e, Nat.lt_of_lt_of_le hb hk.size, fun i hi => (hc i hi).kept hb'⟩⟩
theorem IsI.old {W W' : World} {a : Option Addr} {L : List It16} (h : IsI W a L) (hk : KeptIn (· < W.heap.size) W W') : IsI W' a L := h.kept hk fun _ h => h
theorem IsI.nil (W : World) (a : Option Addr) : IsI W a [] := ⟨Nat.zero_le _, fun _ h => (by cases h), fun h => absurd h (Nat.lt_irrefl 0)⟩

/-- A slice's value is a row of them of somebody's own, in a block not below B. -/
def RowI (T : TypeId) (W : World) (B : Nat) (v : Value) (L : List It16) : Prop := W.ownsRow B T 5 v L.length (cellsI L)
theorem rowS_block16 {w w' : World} {B n s : Nat} {T : TypeId} {v : Value} {xs : List Value} (h : w.ownsRow B T s v n xs) (hb : ∀ g, v.ownBlock = some g → w'.heap[g]? = w.heap[g]?) : w'.ownsRow B T s v n xs := by
  refine ⟨h.1, ?_⟩
  rcases h.2 with h1 | ⟨g, cap, cur, rfl, hg, hb', r⟩
  · exact .inl h1
  · exact .inr ⟨g, cap, cur, rfl, hg, (hb g rfl).trans hb', r⟩
theorem rowS_lt16 {w : World} {B n s : Nat} {T : TypeId} {v : Value} {xs : List Value} (h : w.ownsRow B T s v n xs) (g : Nat) (e : v.ownBlock = some g) : B ≤ g ∧ g < w.heap.size := by
  rcases h.2 with ⟨rfl, _⟩ | ⟨g', cap, cur, rfl, hB, hg, _⟩
  · cases e
  · simp only [Value.ownBlock, Option.some.injEq] at e
    subst e
    exact ⟨hB, (Array.getElem?_eq_some_iff.1 hg).1⟩
section
variable {T : TypeId} {W W' : World} {B : Nat} {v : Value} {L : List It16}
theorem RowI.nil (T : TypeId) (W : World) (B : Nat) : RowI T W B (.slice none 0 0) [] := World.ownsRow_nil _ _ _ _
theorem RowI.old (h : RowI T W B v L) (hk : KeptIn (· < W.heap.size) W W') : RowI T W' B v L := rowS_block16 h fun g e => hk.block g (rowS_lt16 h g e).2
theorem RowI.shape (h : RowI T W B v L) : ∃ a cap, v = .slice a L.length cap := by
  rcases h.2 with ⟨rfl, h0⟩ | ⟨g, cap, cur, rfl, _⟩
  · exact ⟨none, 0, by rw [h0]⟩
  · exact ⟨_, _, rfl⟩
theorem RowI.is {a : Option Addr} {n cap : Nat} (h : RowI T W B (.slice a n cap) L) (hg : ∀ x ∈ L, GdI x) : IsI W a L := by
  rcases h.2 with ⟨e, h0⟩ | ⟨g, cap', cur, e, hB, hb, hc, hm, hs, ht⟩
  · exact ⟨by rw [h0]; exact Nat.zero_le _, hg, fun hp => by omega⟩
  · simp only [Value.slice.injEq] at e
    refine ⟨Nat.le_trans hc hm, hg, fun _ => ⟨g, 0, e.1, (Array.getElem?_eq_some_iff.1 hb).1, fun i hi => ?_⟩⟩
    obtain ⟨h1, h2, h3, h4, h5⟩ := cellsI_at L i hi
    rw [← ht, List.getElem?_take_of_lt (by omega)] at h1 h2 h3 h4 h5
    rw [Nat.zero_add]
    refine ⟨?_, ?_, ?_, ?_, ?_⟩ <;> rw [cell_of_row _ _ _ _ _ _ hb]
    · simpa using h1
    · simpa using h2
    · simpa using h3
    · simpa using h4
    · simpa using h5
end

/-- A row that a function makes. -/
def RwJ (T : TypeId) (B : Nat) (V : World) (L : List It16) (v : Value) (W : World) : Prop := RowI T W B v L ∧ KeptIn (· < B) V W
theorem RwJ.next {T : TypeId} {B : Nat} {V W w8 X : World} {L : List It16} {x : It16} {v v' : Value} (h : RwJ T B V L v W) (hB : V.heap.size = B) (hX : KeptIn (· < W.heap.size) W X)
    (hown : w8.ownsRow B T 5 v' (L.length + 1) (cellsI L ++ [.int .i64 x.ch, .int .i64 x.he, .int .i64 x.ti, .bool x.pn, .bool x.bu])) (hgrow : X.grownBy w8 v.ownBlock) : RwJ T B V (L ++ [x]) v' w8 := by
  refine ⟨?_, ?_⟩
  · unfold RowI; rw [List.length_append, cellsI_snoc]; exact hown
  · exact (h.2.trans (hX.mono fun k hk => Nat.lt_of_lt_of_le (by rw [hB]; exact hk) h.2.size)).grown (fun k hk => by rw [hB]; exact hk) hgrow (fun g e => Nat.not_lt.2 (rowS_lt16 h.1 g e).1)
theorem RwJ.old {T : TypeId} {B : Nat} {V W W' : World} {L : List It16} {v : Value} (h : RwJ T B V L v W) (hB : V.heap.size = B) (hk : KeptIn (· < W.heap.size) W W') : RwJ T B V L v W' :=
  ⟨h.1.old hk, h.2.trans (hk.mono fun k hk' => by have := h.2.size; omega)⟩
/-- What a function answers that makes one. -/
def RwS (T : TypeId) (w : World) (L : List It16) (e : Ending) (w' : World) : Prop := ∃ a cap, e = .returned (.slice a L.length cap) ∧ RowI T w' w.heap.size (.slice a L.length cap) L ∧ KeptIn (· < w.heap.size) w w'

theorem it_bnd (j : Nat) (h : j ≤ 1000) : j + 1 ≤ maxLen ∧ (j + 1) * 32 ≤ 140737488355328 := by
  refine ⟨?_, by omega⟩
  unfold maxLen
  omega
theorem infoIt : (Try.prog.info? 35).map (fun i => (i.zero, i.size, i.bytes)) = some (some (.agg #[.int .i64 0, .int .i64 0, .int .i64 0, .bool false, .bool false]), 5, 32) := by kernel_rfl
theorem infoIt16 : (Try.prog.info? 38).map (fun i => (i.zero, i.size, i.bytes)) = some (some (.agg #[.int .i64 0, .int .i64 0, .int .i64 0, .bool false, .bool false]), 5, 32) := by kernel_rfl

/-- A level. -/
def lv (h : Int) : Nat := if h ≤ 0 then 0 else if h < 2 then 1 else if h < 4 then 2 else if h < 8 then 3 else if h < 16 then 4 else if h < 32 then 5 else if h < 64 then 6 else 7
theorem lv_le (h : Int) : lv h ≤ 7 := by unfold lv; (repeat' split) <;> omega
theorem lv_one (h : Int) (h0 : 0 < h) : 1 ≤ lv h := by unfold lv; (repeat' split) <;> omega
theorem lv_none (h : Int) (h0 : h ≤ 0) : lv h = 0 := if_pos h0
theorem lv_mono {a b : Int} (h : a ≤ b) : lv a ≤ lv b := by unfold lv; (repeat' split) <;> omega
theorem lv_two {a : Int} (h1 : 1 ≤ a) (h2 : a < 64) : lv (2 * a) = lv a + 1 ∧ lv (2 * a + 1) = lv a + 1 := by unfold lv; constructor <;> ((repeat' split) <;> omega)
theorem lv_top {a : Int} (h : 64 ≤ a) : lv a = 7 := by unfold lv; (repeat' split) <;> omega
/-- Found by doubling. -/
def two16 (j : Nat) : Int := (2 : Int) ^ j
theorem lv_at {h : Int} {j : Nat} (hj : j ≤ 7) (h1 : j = 0 ∨ 2 ^ (j - 1) ≤ h) (h2 : j = 7 ∨ h < 2 ^ j) : lv h = j := by
  match j, hj with
  | 0, _ => simp at h2; unfold lv; rw [if_pos (by omega)]
  | 1, _ => simp at h1 h2; unfold lv; (repeat' split) <;> omega
  | 2, _ => simp at h1 h2; unfold lv; (repeat' split) <;> omega
  | 3, _ => simp at h1 h2; unfold lv; (repeat' split) <;> omega
  | 4, _ => simp at h1 h2; unfold lv; (repeat' split) <;> omega
  | 5, _ => simp at h1 h2; unfold lv; (repeat' split) <;> omega
  | 6, _ => simp at h1 h2; unfold lv; (repeat' split) <;> omega
  | 7, _ => simp at h1 h2; unfold lv; (repeat' split) <;> omega

/-- One of some, picked. -/
def pk (L : List It16) (n : Int) : It16 := L.getD ((n % 18446744073709551616).toNat % L.length) it0
theorem pk_nil (n : Int) : pk [] n = it0 := rfl
theorem pk_mem {L : List It16} (n : Int) (h : L ≠ []) : pk L n ∈ L := by
  have hl : 0 < L.length := List.length_pos_iff.2 h
  have := Nat.mod_lt (n % 18446744073709551616).toNat hl
  unfold pk
  rw [List.getD_eq_getElem?_getD, List.getElem?_eq_getElem this]
  exact List.getElem_mem _
def slow16 (x : It16) : Bool := decide (x.ti = 0) && !x.bu
def fast16 (x : It16) : Bool := decide (x.ti = 1) && !x.bu && !x.pn
def mostL (L : List It16) : Nat := L.foldl (fun m x => max m (lv x.he)) 2
def leastL (L : List It16) : Nat := L.foldl (fun m x => min m (lv x.he)) 8
def atL (k : Nat) (L : List It16) : List It16 := L.filter fun x => lv x.he == k
/-- From these one is promoted, or demoted. -/
def upL (L : List It16) : List It16 := if (L.filter slow16).filter It16.pn = [] then atL (mostL (L.filter slow16)) (L.filter slow16) else (L.filter slow16).filter It16.pn
def dnL (L : List It16) : List It16 := atL (leastL (L.filter fast16)) (L.filter fast16)
theorem atL_sub (k : Nat) (L : List It16) : ∀ x ∈ atL k L, x ∈ L := fun x h => (List.mem_filter.1 h).1
theorem atL_nil {k : Nat} {L : List It16} : atL k L = [] ↔ ∀ x ∈ L, lv x.he ≠ k := by
  unfold atL
  rw [List.filter_eq_nil_iff]
  exact ⟨fun h x hx e => h x hx (by simp [e]), fun h x hx e => h x hx (by simpa using e)⟩
theorem most_ge (L : List It16) (m : Nat) : m ≤ L.foldl (fun m x => max m (lv x.he)) m ∧ (∀ x ∈ L, lv x.he ≤ L.foldl (fun m x => max m (lv x.he)) m) ∧ (L.foldl (fun m x => max m (lv x.he)) m = m ∨ ∃ x ∈ L, lv x.he = L.foldl (fun m x => max m (lv x.he)) m) := by
  induction L generalizing m with
  | nil => exact ⟨Nat.le_refl _, fun x h => (by cases h), .inl rfl⟩
  | cons y r ih =>
    obtain ⟨i1, i2, i3⟩ := ih (max m (lv y.he))
    rw [List.foldl_cons]
    refine ⟨by omega, fun x hx => ?_, ?_⟩
    · rcases List.mem_cons.1 hx with rfl | hx
      · omega
      · exact i2 x hx
    · rcases i3 with e | ⟨x, hx, e⟩
      · by_cases h : lv y.he ≤ m
        · left; omega
        · right; exact ⟨y, by simp, by omega⟩
      · right; exact ⟨x, by simp [hx], e⟩
theorem least_le (L : List It16) (m : Nat) : L.foldl (fun m x => min m (lv x.he)) m ≤ m ∧ (∀ x ∈ L, L.foldl (fun m x => min m (lv x.he)) m ≤ lv x.he) ∧ (L.foldl (fun m x => min m (lv x.he)) m = m ∨ ∃ x ∈ L, lv x.he = L.foldl (fun m x => min m (lv x.he)) m) := by
  induction L generalizing m with
  | nil => exact ⟨Nat.le_refl _, fun x h => (by cases h), .inl rfl⟩
  | cons y r ih =>
    obtain ⟨i1, i2, i3⟩ := ih (min m (lv y.he))
    rw [List.foldl_cons]
    refine ⟨by omega, fun x hx => ?_, ?_⟩
    · rcases List.mem_cons.1 hx with rfl | hx
      · omega
      · exact i2 x hx
    · rcases i3 with e | ⟨x, hx, e⟩
      · by_cases h : m ≤ lv y.he
        · left; omega
        · right; exact ⟨y, by simp, by omega⟩
      · right; exact ⟨x, by simp [hx], e⟩
/-- The greatest level that some have. -/
theorem most_at {L : List It16} {k : Nat} (h2 : 2 ≤ k) (h7 : k ≤ 7) (hup : ∀ j, k < j → j ≤ 7 → atL j L = []) (h : atL k L ≠ []) : mostL L = k := by
  obtain ⟨m1, m2, m3⟩ := most_ge L 2
  have hm : mostL L = L.foldl (fun m x => max m (lv x.he)) 2 := rfl
  rw [← hm] at m1 m2 m3
  have hex : ∃ x ∈ L, lv x.he = k := Classical.byContradiction fun hn => h (atL_nil.2 fun x hx e => hn ⟨x, hx, e⟩)
  obtain ⟨x, hx, e⟩ := hex
  have := m2 x hx
  rcases m3 with e3 | ⟨y, hy, e3⟩
  · omega
  · have h7' := lv_le y.he
    rcases Nat.lt_or_ge k (mostL L) with hlt | hge
    · exact absurd e3 (atL_nil.1 (hup (mostL L) hlt (by omega)) y hy)
    · omega
theorem most_none {L : List It16} (hup : ∀ j, 2 ≤ j → j ≤ 7 → atL j L = []) : atL (mostL L) L = [] := by
  obtain ⟨m1, m2, m3⟩ := most_ge L 2
  have hm : mostL L = L.foldl (fun m x => max m (lv x.he)) 2 := rfl
  rw [← hm] at m1 m2 m3
  rcases m3 with e3 | ⟨y, hy, e3⟩
  · rw [e3]; exact hup 2 (by omega) (by omega)
  · have := lv_le y.he
    exact hup _ m1 (by omega)
theorem least_at {L : List It16} {k : Nat} (h7 : k ≤ 7) (hup : ∀ j, j < k → atL j L = []) (h : atL k L ≠ []) : leastL L = k := by
  obtain ⟨m1, m2, m3⟩ := least_le L 8
  have hm : leastL L = L.foldl (fun m x => min m (lv x.he)) 8 := rfl
  rw [← hm] at m1 m2 m3
  have hex : ∃ x ∈ L, lv x.he = k := Classical.byContradiction fun hn => h (atL_nil.2 fun x hx e => hn ⟨x, hx, e⟩)
  obtain ⟨x, hx, e⟩ := hex
  have := m2 x hx
  rcases m3 with e3 | ⟨y, hy, e3⟩
  · omega
  · rcases Nat.lt_or_ge (leastL L) k with hlt | hge
    · exact absurd e3 (atL_nil.1 (hup (leastL L) hlt) y hy)
    · omega
theorem least_none {L : List It16} (hup : ∀ j, j ≤ 7 → atL j L = []) : atL (leastL L) L = [] := by
  rw [atL_nil]
  intro x hx _
  exact atL_nil.1 (hup (lv x.he) (lv_le _)) x hx rfl
theorem upL_sub (L : List It16) : ∀ x ∈ upL L, x ∈ L := by
  intro x hx
  unfold upL at hx
  split at hx
  · exact (List.mem_filter.1 (atL_sub _ _ x hx)).1
  · exact (List.mem_filter.1 (List.mem_filter.1 hx).1).1
theorem dnL_sub (L : List It16) : ∀ x ∈ dnL L, x ∈ L := fun x hx => (List.mem_filter.1 (atL_sub _ _ x hx)).1
theorem pk_good {L M : List It16} (hg : ∀ x ∈ L, GdI x) (hs : ∀ x ∈ M, x ∈ L) (n : Int) : GdI (pk M n) := by
  by_cases h : M = []
  · subst h; rw [pk_nil]; exact ⟨by decide, by decide, by decide⟩
  · exact hg _ (hs _ (pk_mem n h))

end Go.Proofs.Ytjhmcfhbjfjmkaa
