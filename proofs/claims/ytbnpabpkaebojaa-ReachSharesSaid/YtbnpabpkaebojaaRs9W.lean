import Derived.Test.YtbnpabpkaebojaaGr9W
/- ReachShares of layer 9: the mathematics: leads are as many as roots and pairs above the leaves; new pages are few. -/
set_option linter.unusedVariables false
set_option linter.unusedSimpArgs false
namespace Go.Proofs.Ytbnpabpkaebojaa
open Go.RowKit

theorem sub_le9 {a : List Int} : ∀ {b : List Int}, a.Nodup → (∀ x ∈ a, x ∈ b) → a.length ≤ b.length := by
  induction a with
  | nil => intro b _ _; exact Nat.zero_le _
  | cons x a ih =>
    intro b hn hs
    obtain ⟨hx, hn⟩ := List.nodup_cons.1 hn
    have hb := hs x List.mem_cons_self
    have := ih (b := b.erase x) hn fun y hy => (List.mem_erase_of_ne (show y ≠ x from fun e => hx (by rw [← e]; exact hy))).2 (hs y (List.mem_cons_of_mem _ hy))
    rw [List.length_erase_of_mem hb] at this
    have := List.length_pos_of_mem hb
    rw [List.length_cons]
    omega
theorem sum_add9 {α : Type} (L : List α) (f g : α → Nat) : (L.map fun q => f q + g q).sum = (L.map f).sum + (L.map g).sum := by
  induction L with
  | nil => rfl
  | cons x L ih => simp only [List.map_cons, List.sum_cons, ih]; omega
theorem sum_zeroL9 {α : Type} (L : List α) (f : α → Nat) (h : ∀ q ∈ L, f q = 0) : (L.map f).sum = 0 := by
  induction L with
  | nil => rfl
  | cons x L ih => simp only [List.map_cons, List.sum_cons, h x List.mem_cons_self, ih fun q hq => h q (List.mem_cons_of_mem _ hq)]
theorem sum_one9 {L : List Int} (hn : L.Nodup) {y : Int} (hy : y ∈ L) : (L.map fun q => if y == q then 1 else 0).sum = 1 := by
  induction L with
  | nil => cases hy
  | cons x L ih =>
    obtain ⟨hx, hn⟩ := List.nodup_cons.1 hn
    simp only [List.map_cons, List.sum_cons]
    by_cases e : y = x
    · subst e
      rw [beq_self_eq_true, if_pos rfl, sum_zeroL9 L _ fun q hq => by rw [if_neg]; rw [beq_iff_eq]; exact fun e => hx (e ▸ hq)]
    · rw [if_neg (by rw [beq_iff_eq]; exact e), Nat.zero_add]
      exact ih hn ((List.mem_cons.1 hy).resolve_left e)
theorem sum_count9 {α : Type} {L : List Int} (hn : L.Nodup) (f : α → Int) (p : α → Bool) (xs : List α) (h : ∀ x ∈ xs, p x = true → f x ∈ L) : (L.map fun q => xs.countP fun x => f x == q && p x).sum = xs.countP p := by
  induction xs with
  | nil => exact sum_zeroL9 L _ fun _ _ => rfl
  | cons x xs ih =>
    have e : (L.map fun q => (x :: xs).countP fun x => f x == q && p x) = L.map fun q => (xs.countP fun x => f x == q && p x) + (if (f x == q && p x) = true then 1 else 0) := List.map_congr_left fun q _ => by rw [List.countP_cons]
    rw [e, sum_add9, ih fun y hy => h y (List.mem_cons_of_mem _ hy), List.countP_cons]
    congr 1
    by_cases hp : p x = true
    · rw [if_pos hp]
      simp only [hp, Bool.and_true]
      exact sum_one9 hn (h x List.mem_cons_self hp)
    · rw [if_neg hp]
      refine sum_zeroL9 L _ fun q _ => ?_
      rw [Bool.not_eq_true] at hp
      simp [hp]
theorem sum_swap9 {L : List Int} (F : Nat → Int → Nat) (n : Nat) : (L.map fun q => ((List.range n).map fun i => F i q).sum).sum = ((List.range n).map fun i => (L.map (F i)).sum).sum := by
  induction n with
  | zero => exact sum_zeroL9 L _ fun _ _ => rfl
  | succ n ih =>
    simp only [List.range_succ, List.map_append, List.sum_append, List.map_cons, List.map_nil, List.sum_cons, List.sum_nil, Nat.add_zero]
    rw [sum_add9, ih]

/-- The pairs of a page above the leaves. -/
def wl (N : List Nd) (q : Int) : Nat := match nodeOf N q.toNat with
  | some (l, ps) => if l = 0 then 0 else ps.length
  | none => 0
theorem sum_filter9 (P : Nat → Bool) (f : Nat → Nat) (n : Nat) : (((List.range n).filter P).map f).sum = ((List.range n).map fun i => if P i then f i else 0).sum := by
  induction n with
  | zero => rfl
  | succ n ih =>
    simp only [List.range_succ, List.filter_append, List.map_append, List.sum_append, ih, List.map_cons, List.map_nil, List.sum_cons, List.sum_nil, Nat.add_zero]
    congr 1
    by_cases h : P n = true
    · simp [h]
    · simp [h]
theorem sumPerm9 {a b : List Nat} (h : a.Perm b) : a.sum = b.sum := by
  induction h with
  | nil => rfl
  | cons x _ ih => simp only [List.sum_cons, ih]
  | swap x y l => simp only [List.sum_cons]; omega
  | trans _ _ h1 h2 => exact h1.trans h2

/-- Leads are as many as roots that aren't 0, and pairs above the leaves. -/
theorem leads9 {N : List Nd} (hN : N.length ≤ 511) {rs : List Int} {G : Int → List Int} {P : Int → Bool} (hG : ∀ r ∈ rs, ∃ root l qs g, r = ((root : Nat) : Int) ∧ TreeG N root l qs g ∧ g.Nodup ∧ G r = ofP g) (hP : ∀ q, P q = true ↔ ∃ r ∈ rs, q ∈ G r) :
    ((need9 N rs P).map (cnA N rs P)).sum = rs.countP (fun r => r != 0) + ((need9 N rs P).map (wl N)).sum := by
  have hnd : (need9 N rs P).Nodup := (upTo_sorted _ _).imp fun {x y} h e => by omega
  have hPg : ∀ q, P q = true → 1 ≤ q ∧ q ≤ N.length := fun q hq => by
    obtain ⟨r, hr, h⟩ := (hP q).1 hq
    obtain ⟨root, l, qs, g, e, hT, _, hg⟩ := hG r hr
    rw [hg] at h
    obtain ⟨z, hz, e2⟩ := List.mem_map.1 h
    have := hT.pages z hz
    have e3 : ((z : Nat) : Int) = q := e2
    omega
  have hm : ∀ q, q ∈ need9 N rs P ↔ P q = true := fun q => by
    unfold need9
    rw [mem_upTo, decide_eq_true_eq, cnA_pos hN hG hP, ← hP]
    exact ⟨fun h => h.2.2, fun h => ⟨by have := hPg q h; omega, by have := hPg q h; omega, h⟩⟩
  have hofP : ∀ (g : List Nat) (z : Nat), ((z : Nat) : Int) ∈ ofP g ↔ z ∈ g := fun g z => by
    rw [List.mem_map]
    constructor
    · rintro ⟨a, ha, e⟩
      have : a = z := by have h2 : ((a : Nat) : Int) = (z : Int) := e; omega
      rw [← this]; exact ha
    · exact fun h => ⟨z, h, rfl⟩
  have hroot : ∀ r ∈ rs, (r != 0) = true → r ∈ need9 N rs P := fun r hr h0 => by
    rw [bne_iff_ne] at h0
    obtain ⟨root, l, qs, g, e, hT, _, hg⟩ := hG r hr
    rw [hm, hP]
    exact ⟨r, hr, by rw [hg, e, hofP]; exact (tree_led hT).1 (by omega)⟩
  obtain ⟨L, hL⟩ : ∃ L, need9 N rs P = L := ⟨_, rfl⟩
  rw [hL] at hnd hm hroot ⊢
  have h1 : (L.map (cnR rs)).sum = rs.countP fun r => r != 0 := sum_count9 hnd (fun r => r) (fun r => r != 0) rs hroot
  have h2 : (L.map (cnP N P)).sum = (L.map (wl N)).sum := by
    show (L.map fun q => ((List.range N.length).map fun i => if P ((i + 1 : Nat) : Int) then mlt N i q else 0).sum).sum = _
    rw [sum_swap9 (fun i q => if P ((i + 1 : Nat) : Int) then mlt N i q else 0)]
    have e1 : ((List.range N.length).map fun i => (L.map fun q => if P ((i + 1 : Nat) : Int) then mlt N i q else 0).sum) = (List.range N.length).map fun i => if P ((i + 1 : Nat) : Int) then wl N ((i + 1 : Nat) : Int) else 0 := by
      refine List.map_congr_left fun i hi => ?_
      have hil := List.mem_range.1 hi
      by_cases hPi : P ((i + 1 : Nat) : Int) = true
      · rw [if_pos hPi]
        simp only [hPi, if_true]
        obtain ⟨nd, hnd2⟩ : ∃ nd, N[i]? = some nd := ⟨_, List.getElem?_eq_getElem hil⟩
        obtain ⟨l, ps⟩ := nd
        have hno := mlt_nodeOf hnd2
        unfold wl
        rw [show ((i + 1 : Nat) : Int).toNat = i + 1 by omega, hno]
        simp only
        by_cases hl : l = 0
        · rw [if_pos hl]
          refine sum_zeroL9 L _ fun q _ => ?_
          unfold mlt
          rw [hnd2]
          simp [hl]
        · rw [if_neg hl]
          have e2 : (L.map fun q => mlt N i q) = L.map fun q => ps.countP fun p => kv9 p == q && true := List.map_congr_left fun q _ => by
            unfold mlt vls
            rw [hnd2]
            simp [hl]
          rw [e2, sum_count9 hnd kv9 (fun _ => true) ps fun v hv _ => ?_]
          · simp
          · obtain ⟨r, hr, hir⟩ := (hP _).1 hPi
            obtain ⟨root, l', qs, g, e, hT, _, hg⟩ := hG r hr
            rw [hg, hofP] at hir
            have hvg := (tree_led hT).2.2 (i + 1) hir l ps hno hl v hv
            rw [hm, hP]
            exact ⟨r, hr, by rw [kv_page hN (hT.pages _ hvg).2, hg, hofP]; exact hvg⟩
      · rw [if_neg hPi]
        refine sum_zeroL9 L _ fun q _ => ?_
        rw [if_neg hPi]
    rw [e1, ← sum_filter9 (fun i => P ((i + 1 : Nat) : Int)) (fun i => wl N ((i + 1 : Nat) : Int))]
    have hp : (((List.range N.length).filter fun i => P ((i + 1 : Nat) : Int)).map fun i => ((i + 1 : Nat) : Int)).Perm L := by
      refine (List.perm_ext_iff_of_nodup ?_ hnd).2 fun q => ?_
      · refine List.pairwise_map.2 ((List.Pairwise.sublist List.filter_sublist List.nodup_range).imp fun {a b} h e => h (by omega))
      · rw [hm, List.mem_map]
        constructor
        · rintro ⟨i, hi, rfl⟩
          exact (List.mem_filter.1 hi).2
        · intro hq
          have := hPg q hq
          exact ⟨q.toNat - 1, List.mem_filter.2 ⟨List.mem_range.2 (by omega), by rw [show ((q.toNat - 1 + 1 : Nat) : Int) = q by omega]; exact hq⟩, by omega⟩
    have := sumPerm9 (hp.map (wl N))
    rw [List.map_map] at this
    exact this
  show (L.map fun q => cnR rs q + cnP N P q).sum = _
  rw [sum_add9, h1, h2]

end Go.Proofs.Ytbnpabpkaebojaa
