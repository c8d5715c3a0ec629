/- Who moves, by what it is: the mathematics of RankPinned; a list that came in. -/
import Derived.Test.YtjhmcfhbjfjmkaaFo16
set_option linter.unusedVariables false
namespace Go.Proofs.Ytjhmcfhbjfjmkaa
open Go.RowKit

/-- It waits: pinned, on the slow tier, not busy. -/
def wt16 (x : It16) : Bool := x.pn && !x.bu && decide (x.ti = 0)
theorem wt_any (l : List It16) : l.any wt16 = true ↔ (l.filter slow16).filter It16.pn ≠ [] := by
  rw [List.any_eq_true]
  constructor
  · rintro ⟨x, hx, h⟩ he
    unfold wt16 at h
    simp only [Bool.and_eq_true, Bool.not_eq_true', decide_eq_true_eq] at h
    have : x ∈ (l.filter slow16).filter It16.pn := List.mem_filter.2 ⟨List.mem_filter.2 ⟨hx, by unfold slow16; simp [h.1.2, h.2]⟩, h.1.1⟩
    rw [he] at this
    cases this
  · intro h
    obtain ⟨x, hx⟩ := List.exists_mem_of_ne_nil _ h
    obtain ⟨h1, h2⟩ := List.mem_filter.1 hx
    obtain ⟨h3, h4⟩ := List.mem_filter.1 h1
    refine ⟨x, h3, ?_⟩
    unfold slow16 at h4
    simp only [Bool.and_eq_true, Bool.not_eq_true', decide_eq_true_eq] at h4
    unfold wt16
    simp [h2, h4.1, h4.2]
theorem pk_ch {l M : List It16} (h1 : ∀ x ∈ l, 1 ≤ x.ch) (hs : ∀ x ∈ M, x ∈ l) (n : Int) : (pk M n).ch = 0 ↔ M = [] := by
  constructor
  · intro h
    by_cases he : M = []
    · exact he
    · have := h1 _ (hs _ (pk_mem n he))
      omega
  · rintro rfl; rfl
theorem up_what {l : List It16} {y : It16} (h : y ∈ upL l) : y.ti = 0 ∧ y.bu = false ∧ (y.pn = true ∨ (l.any wt16 = false ∧ 2 ≤ lv y.he)) := by
  have key : ∀ z ∈ l.filter slow16, z.ti = 0 ∧ z.bu = false := fun z hz => by
    have := (List.mem_filter.1 hz).2
    unfold slow16 at this
    simp only [Bool.and_eq_true, Bool.not_eq_true', decide_eq_true_eq] at this
    exact this
  unfold upL at h
  split at h
  · rename_i h0
    obtain ⟨h1, h2⟩ := List.mem_filter.1 h
    obtain ⟨k1, k2⟩ := key y h1
    refine ⟨k1, k2, .inr ⟨?_, ?_⟩⟩
    · cases hw : l.any wt16 with
      | false => rfl
      | true => exact absurd h0 ((wt_any l).1 hw)
    · have := (most_ge (l.filter slow16) 2).1
      have e : lv y.he = mostL (l.filter slow16) := by simpa using h2
      rw [e]
      exact this
  · obtain ⟨h1, h2⟩ := List.mem_filter.1 h
    obtain ⟨k1, k2⟩ := key y h1
    exact ⟨k1, k2, .inl h2⟩
theorem dn_what {l : List It16} {y : It16} (h : y ∈ dnL l) : y.ti = 1 ∧ y.bu = false ∧ y.pn = false := by
  have := (List.mem_filter.1 (List.mem_filter.1 h).1).2
  unfold fast16 at this
  simp only [Bool.and_eq_true, Bool.not_eq_true', decide_eq_true_eq] at this
  exact ⟨this.1.1, this.1.2, this.2⟩
/-- Nobody moves. -/
theorem wn_no {l : List It16} (h1 : ∀ x ∈ l, 1 ≤ x.ch) {room n c t : Int} (h : wn l room n = (c, t, false)) : c = 0 ∧ t = 0 ∧ (l.any wt16 = true → ¬ 0 < room) := by
  unfold wn at h
  split at h
  · rename_i h0
    simp only [Prod.mk.injEq, and_true] at h
    refine ⟨h.1.symm, h.2.symm, fun hw => ?_⟩
    have hu := (pk_ch h1 (upL_sub l) n).1 h0
    have hp := (wt_any l).1 hw
    unfold upL at hu
    rw [if_neg hp] at hu
    exact absurd hu hp
  · split at h
    · simp at h
    · rename_i hr
      split at h
      · simp at h
      · simp only [Prod.mk.injEq, and_true] at h
        exact ⟨h.1.symm, h.2.symm, fun _ => hr⟩
/-- Somebody does: this one. -/
theorem wn_yes {l : List It16} (h1 : ∀ x ∈ l, 1 ≤ x.ch) {room n c t : Int} (h : wn l room n = (c, t, true)) :
    ∃ y ∈ l, y.ch = c ∧ y.bu = false ∧ ((t = 1 ∧ y.ti = 0 ∧ 0 < room ∧ (y.pn = true ∨ (l.any wt16 = false ∧ 2 ≤ lv y.he))) ∨ (t = 0 ∧ y.ti = 1 ∧ y.pn = false ∧ ¬ 0 < room)) := by
  unfold wn at h
  split at h
  · simp at h
  · rename_i h0
    have hne : upL l ≠ [] := fun e => h0 ((pk_ch h1 (upL_sub l) n).2 e)
    have hm := pk_mem n hne
    split at h
    · rename_i hr
      simp only [Prod.mk.injEq, and_true] at h
      obtain ⟨u1, u2, u3⟩ := up_what hm
      exact ⟨_, upL_sub l _ hm, h.1, u2, .inl ⟨h.2.symm, u1, hr, u3⟩⟩
    · rename_i hr
      split at h
      · rename_i hd
        simp only [Prod.mk.injEq, and_true] at h
        have hne2 : dnL l ≠ [] := fun e => hd.1 ((pk_ch h1 (dnL_sub l) n).2 e)
        have hm2 := pk_mem n hne2
        obtain ⟨u1, u2, u3⟩ := dn_what hm2
        exact ⟨_, dnL_sub l _ hm2, h.1, u2, .inr ⟨h.2.symm, u1, u3, hr⟩⟩
      · simp at h

/-- A list that came in. -/
def IsIts16 (W : World) (a : Option Addr) (len : Nat) : Prop :=
  len = 0 ∨ ∃ b off, a = some ⟨b, off, none⟩ ∧ b < W.heap.size ∧ len ≤ maxLen ∧ ∀ i, i < len → ∃ x : It16, GdI x ∧ At16 W b (off + i * 5) x
theorem IsIts16.list {W : World} {a : Option Addr} {len : Nat} (h : IsIts16 W a len) : ∃ l, l.length = len ∧ IsI W a l := by
  rcases h with rfl | ⟨b, off, rfl, hb, hm, h⟩
  · exact ⟨[], rfl, IsI.nil W a⟩
  · have hc : ∃ f : Nat → It16, ∀ i, i < len → GdI (f i) ∧ At16 W b (off + i * 5) (f i) :=
      ⟨fun i => if hi : i < len then Classical.choose (h i hi) else it0, fun i hi => by show GdI (dite _ _ _) ∧ At16 W b (off + i * 5) (dite _ _ _); rw [dif_pos hi]; exact Classical.choose_spec (h i hi)⟩
    obtain ⟨f, hf⟩ := hc
    refine ⟨(List.range len).map f, by simp, by simp [hm], fun x hx => ?_, fun _ => ⟨b, off, rfl, hb, fun i hi => ?_⟩⟩
    · obtain ⟨i, hi, rfl⟩ := List.mem_map.1 hx
      exact (hf i (by simpa using hi)).1
    · have hi2 : i < len := by simpa using hi
      have := (hf i hi2).2
      simpa using this
theorem IsIts16.len_le {W : World} {a : Option Addr} {len : Nat} (h : IsIts16 W a len) : len ≤ maxLen := by
  rcases h with rfl | ⟨b, off, rfl, hb, hm, h⟩
  · exact Nat.zero_le _
  · exact hm

end Go.Proofs.Ytjhmcfhbjfjmkaa
