import Derived.Test.YtefompndoopceaaGreatDoorStK
import Derived.Test.YtefompndoopceaaGreatDoorOldK
import Derived.Test.YtefompndoopceaaGreatDoorDnewK
/- A store's Keep and Sweep. -/
set_option linter.unusedVariables false
namespace Go.Proofs.YtefompndoopceaaGreatDoor
open Go.RowKit

/-- A slice's value reads as the integers l; it lies in none of A's blocks. -/
structure IntsIn (A : Ad) (W : World) (a : Option Addr) (l : List Int) : Prop where
  len : l.length ≤ maxLen
  wf : ∀ x ∈ l, I64 x
  cells : 0 < l.length → ∃ b off, a = some ⟨b, off, none⟩ ∧ b < W.heap.size ∧ ¬ A.has b ∧ ∀ i, i < l.length → W.cell? ⟨b, off + i, none⟩ = some (.int .i64 (l.getD i 0))
theorem IntsIn.fr {A : Ad} {W W' : World} {a : Option Addr} {l : List Int} (h : IntsIn A W a l) (hk : Fr A W W') : IntsIn A W' a l :=
  ⟨h.len, h.wf, fun hp => by
    obtain ⟨b, off, e, hlt, hn, hc⟩ := h.cells hp
    exact ⟨b, off, e, Nat.lt_of_lt_of_le hlt hk.size, hn, fun i hi => (World.cell?_of_block (a := ⟨b, off + i, none⟩) (hk.block b ⟨hlt, hn⟩)).trans (hc i hi)⟩⟩
theorem ints_none (A : Ad) (W : World) (a : Option Addr) : IntsIn A W a [] := ⟨Nat.zero_le _, (fun x h => by cases h), fun h => absurd h (Nat.lt_irrefl 0)⟩
theorem IntsIn.old {A : Ad} {W W' : World} {a : Option Addr} {l : List Int} (h : IntsIn A W a l) (hk : KeptIn (· < W.heap.size) W W') : IntsIn A W' a l := h.fr (Fr.of_old hk)

def pgOf (P : List Pag) (q : Nat) : Pag := P.getD q pag0
theorem pgOf_st (P : List Pag) (q : Nat) : (pgOf P q).1 = stOf P q := rfl
theorem pgOf_tx (P : List Pag) (q : Nat) : (pgOf P q).2 = txOf P q := rfl
theorem pgOf_set (P : List Pag) (q r : Nat) (g : Pag) (hq : q < P.length) : pgOf (P.set q g) r = if r = q then g else pgOf P r := by
  unfold pgOf
  rw [List.getD_eq_getElem?_getD, List.getD_eq_getElem?_getD]
  by_cases e : r = q
  · subst e; rw [List.getElem?_set_self hq, if_pos rfl]; rfl
  · rw [List.getElem?_set_ne (fun h => e h.symm), if_neg e]
theorem pgOf_ext {P Q : List Pag} (hl : P.length = Q.length) (h : ∀ q, q < P.length → pgOf P q = pgOf Q q) : P = Q := by
  apply List.ext_getElem hl
  intro i h1 h2
  have := h i h1
  unfold pgOf at this
  rw [List.getD_eq_getElem?_getD, List.getD_eq_getElem?_getD, List.getElem?_eq_getElem h1, List.getElem?_eq_getElem h2] at this
  exact this
theorem pgOf_map (n : Nat) (f : Nat → Pag) (q : Nat) (h : q < n) : pgOf ((List.range n).map f) q = f q := by
  unfold pgOf
  rw [List.getD_eq_getElem?_getD, List.getElem?_map, List.getElem?_range h]
  rfl

def keepF (P : List Pag) (l : List Int) (q : Nat) : Pag := if 1 ≤ q ∧ (q : Int) ∈ l then (2, []) else if stOf P q = 2 then pag0 else pgOf P q
/-- Just these are committed. -/
def keepP (P : List Pag) (l : List Int) : List Pag := (List.range P.length).map (keepF P l)
theorem keepP_length (P : List Pag) (l : List Int) : (keepP P l).length = P.length := by simp [keepP]
theorem keepP_st (P : List Pag) (l : List Int) (q : Nat) : stOf (keepP P l) q = if q < P.length ∧ 1 ≤ q ∧ (q : Int) ∈ l then 2 else if stOf P q = 2 then 0 else stOf P q := by
  by_cases hq : q < P.length
  · rw [← pgOf_st, keepP, pgOf_map _ _ _ hq, keepF]
    by_cases h1 : 1 ≤ q ∧ (q : Int) ∈ l
    · rw [if_pos h1, if_pos ⟨hq, h1⟩]
    · rw [if_neg h1, if_neg (show ¬ (q < P.length ∧ 1 ≤ q ∧ (q : Int) ∈ l) from fun h => h1 h.2)]
      by_cases h2 : stOf P q = 2
      · rw [if_pos h2, if_pos h2]; rfl
      · rw [if_neg h2, if_neg h2]; rfl
  · rw [stOf_ge _ _ (by rw [keepP_length]; omega), if_neg (fun h => hq h.1), stOf_ge P q (by omega)]
    simp
theorem keepP_tx (P : List Pag) (l : List Int) (q : Nat) (h : stOf (keepP P l) q = 1) : txOf (keepP P l) q = txOf P q ∧ stOf P q = 1 := by
  by_cases hq : q < P.length
  · rw [← pgOf_st, keepP, pgOf_map _ _ _ hq, keepF] at h
    rw [← pgOf_tx, keepP, pgOf_map _ _ _ hq, keepF]
    by_cases h1 : 1 ≤ q ∧ (q : Int) ∈ l
    · rw [if_pos h1] at h; cases h
    · rw [if_neg h1] at h ⊢
      by_cases h2 : stOf P q = 2
      · rw [if_pos h2] at h; cases h
      · rw [if_neg h2] at h ⊢; exact ⟨rfl, h⟩
  · rw [stOf_ge _ _ (by rw [keepP_length]; omega)] at h; cases h

def sweepF (P : List Pag) (l : List Int) (q : Nat) : Pag := if stOf P q = 1 ∧ ¬ (1 ≤ q ∧ (q : Int) ∈ l) then pag0 else pgOf P q
/-- Of the new pages just these stay. -/
def sweepP (P : List Pag) (l : List Int) : List Pag := (List.range P.length).map (sweepF P l)
theorem sweepP_length (P : List Pag) (l : List Int) : (sweepP P l).length = P.length := by simp [sweepP]
theorem sweepP_st (P : List Pag) (l : List Int) (q : Nat) : stOf (sweepP P l) q = if stOf P q = 1 ∧ ¬ (1 ≤ q ∧ (q : Int) ∈ l) then 0 else stOf P q := by
  by_cases hq : q < P.length
  · rw [← pgOf_st, sweepP, pgOf_map _ _ _ hq, sweepF]
    split <;> rfl
  · rw [stOf_ge _ _ (by rw [sweepP_length]; omega), stOf_ge P q (by omega)]
    simp
theorem sweepP_tx (P : List Pag) (l : List Int) (q : Nat) (h : stOf (sweepP P l) q = 1) : txOf (sweepP P l) q = txOf P q ∧ stOf P q = 1 := by
  by_cases hq : q < P.length
  · rw [← pgOf_st, sweepP, pgOf_map _ _ _ hq, sweepF] at h
    rw [← pgOf_tx, sweepP, pgOf_map _ _ _ hq, sweepF]
    by_cases h1 : stOf P q = 1 ∧ ¬ (1 ≤ q ∧ (q : Int) ∈ l)
    · rw [if_pos h1] at h; cases h
    · rw [if_neg h1] at h ⊢; exact ⟨rfl, h⟩
  · rw [stOf_ge _ _ (by rw [sweepP_length]; omega)] at h; cases h

theorem ite_iff {α : Type} {c d : Prop} [Decidable c] [Decidable d] (h : c ↔ d) (x y : α) : (if c then x else y) = if d then x else y := by
  by_cases k : c
  · rw [if_pos k, if_pos (h.1 k)]
  · rw [if_neg k, if_neg (fun e => k (h.2 e))]
theorem take_mem (l : List Int) (j : Nat) (hj : j < l.length) (x : Int) : x ∈ l.take (j + 1) ↔ x ∈ l.take j ∨ x = l.getD j 0 := by
  rw [List.take_succ_eq_append_getElem hj, List.mem_append, List.getD_eq_getElem?_getD, List.getElem?_eq_getElem hj]
  simp

/-- What the store's rounds leave: the pages as R tells. -/
structure Rnd (A : Ad) (h : Hd) (a n : Nat) (w : World) (R : Nat → Pag) (W : World) : Prop where
  ex : ∃ Q, StAt A h a Q W ∧ Q.length = n ∧ ∀ q, q < n → pgOf Q q = R q
  kept : KeptIn (fun k => k < w.heap.size ∧ k ≠ A.st ∧ k ≠ A.pg) w W

section
variable {A : Ad} {h : Hd} {a n : Nat} {w W : World} {R R' : Nat → Pag}
theorem Rnd.c7 (r : Rnd A h a n w R W) : W.cell? ⟨A.st, 7, none⟩ = some (.slice (some ⟨A.pg, 0, none⟩) n n) := by
  obtain ⟨Q, h1, h2, _⟩ := r.ex
  rw [← h2]; exact h1.c7
theorem Rnd.at (r : Rnd A h a n w R W) (i : Nat) (hi : i < n) : W.cell? ⟨A.pg, i * 2, none⟩ = some (.int .i64 ((R i).1 : Int)) ∧ W.cell? ⟨A.pg, i * 2 + 1, none⟩ = some (.string ⟨(R i).2.toArray⟩) := by
  obtain ⟨Q, h1, h2, h3⟩ := r.ex
  have := h1.at i (by omega)
  rw [← pgOf_st, ← pgOf_tx, h3 i hi] at this
  exact this
theorem Rnd.fz (r : Rnd A h a n w R W) (i : Nat) : W.frozen? ⟨A.pg, i, none⟩ = false := by
  obtain ⟨Q, h1, _⟩ := r.ex
  exact h1.fp i
theorem Rnd.congr (r : Rnd A h a n w R W) (e : ∀ q, q < n → R q = R' q) : Rnd A h a n w R' W := by
  obtain ⟨Q, h1, h2, h3⟩ := r.ex
  exact ⟨⟨Q, h1, h2, fun q hq => (h3 q hq).trans (e q hq)⟩, r.kept⟩
theorem Rnd.set (r : Rnd A h a n w R W) (i : Nat) (hi : i < n) (g : Pag) (e : ∀ q, q < n → (if q = i then g else R q) = R' q) : Rnd A h a n w R' ((W.setCell ⟨A.pg, i * 2, none⟩ (.int .i64 (g.1 : Int))).setCell ⟨A.pg, i * 2 + 1, none⟩ (.string ⟨g.2.toArray⟩)) := by
  obtain ⟨Q, h1, h2, h3⟩ := r.ex
  refine ⟨⟨Q.set i g, h1.set i (by omega) g, by rw [List.length_set]; exact h2, fun q hq => ?_⟩, (r.kept.setCell (p := ⟨A.pg, i * 2, none⟩) (by simp) _).setCell (p := ⟨A.pg, i * 2 + 1, none⟩) (by simp) _⟩
  rw [pgOf_set Q i q g (by omega), h3 q hq]
  exact e q hq
theorem Rnd.any (r : Rnd A h a n w R W) : ∃ Q, StAt A h a Q W ∧ Q.length = n := by
  obtain ⟨Q, h1, h2, _⟩ := r.ex
  exact ⟨Q, h1, h2⟩
theorem Rnd.ints (r : Rnd A h a n w R W) {b : Option Addr} {l : List Int} (hi : IntsIn A w b l) : IntsIn A W b l :=
  hi.fr (r.kept.mono fun k hk => ⟨hk.1, fun e => hk.2 (.inr (.inr (.inr (.inr (.inl e))))), fun e => hk.2 (.inr (.inr (.inr (.inr (.inr e)))))⟩)
theorem Rnd.fin {N : Nat} {p : Pw} {S : List (List UInt8)} {M : Int → Option (List UInt8)} {P P' : List Pag} (r : Rnd A h a P.length w R W) (k : Sv A N p S M h a P w) (hl : P'.length = P.length) (e : ∀ q, q < P.length → R q = pgOf P' q)
    (h1 : ∀ q, stOf P' q ≤ 2) (h2 : ∀ q, stOf P' q = 1 → (txOf P' q).length = 256) : Sv A N p S M h a P' W ∧ Fr A w W := by
  obtain ⟨Q, q1, q2, q3⟩ := r.ex
  obtain rfl : Q = P' := pgOf_ext (by rw [q2, hl]) fun q hq => by rw [q3 q (by omega), e q (by omega)]
  exact k.sto q1 r.kept hl k.good k.ha h1 h2
end

set_option maxHeartbeats 2000000 in
theorem stKeep {A : Ad} {N : Nat} {p : Pw} {S : List (List UInt8)} {M : Int → Option (List UInt8)} {h : Hd} {a : Nat} {P : List Pag} {w : World} (k : Sv A N p S M h a P w) (a' : Option Addr) (cap : Nat) (l : List Int) (hi : IntsIn A w a' l) :
    Calls Tryz.prog 23 #[.pointer (some ⟨A.st, 0, none⟩), .slice a' l.length cap] w fun e w' => e = .returned (.tuple #[]) ∧ Sv A N p S M h a (keepP P l) w' ∧ Fr A w w' := by
  have hfin : ∀ W, Rnd A h a P.length w (keepF P l) W → Sv A N p S M h a (keepP P l) W ∧ Fr A w W := fun W r =>
    r.fin k (keepP_length P l) (fun q hq => by rw [keepP, pgOf_map _ _ _ hq])
      (fun q => by
        rw [keepP_st]
        have := k.sts q
        split
        · exact Nat.le_refl _
        · split
          · exact Nat.zero_le _
          · exact this)
      (fun q hq => by
        obtain ⟨e1, e2⟩ := keepP_tx P l q hq
        rw [e1]
        exact k.txs q e2)
  obtain ⟨n, hn⟩ : ∃ n, P.length = n := ⟨_, rfl⟩
  obtain ⟨ll, hll⟩ : ∃ ll, l.length = ll := ⟨_, rfl⟩
  have hpl := k.plen.1
  have hm : (ll : Int) ≤ 9223372036854775807 := by have := hi.len; unfold maxLen at this; omega
  have r0 : Rnd A h a n w (fun q => pgOf P q) w := ⟨⟨P, k.isS, hn, fun _ _ => rfl⟩, .refl _ _⟩
  have c7 := r0.c7
  rw [hn] at hfin hpl
  have HFIN := Lib.hid hfin
  have HI := Lib.hid hi
  have HLL := Lib.hid hll
  have HR0 := Lib.hid r0
  rw [hll]
  clear hfin k hi hll hn r0
  go_enter Tryz.func23, Tryz.ntmps23
  go_wp2_with fail
  have hst0 : Hid (Rnd A h a n w (fun q => if q < 0 ∧ stOf P q = 2 then pag0 else pgOf P q) w) := Lib.hid (HR0.out.congr fun q _ => by rw [if_neg (fun h => absurd h.1 (by omega))])
  clear c7
  go_loopw [4, 14] (fun _ c wr => ∃ (j : Nat) (W' : World), W' = wr ∧ j ≤ n ∧ c = .int .i64 j ∧ Hid (Rnd A h a n w (fun q => if q < j ∧ stOf P q = 2 then pag0 else pgOf P q) W')) (fun _ c _ => n - (RowKit.intOf c).toNat)
  case atStart => exact ⟨0, _, rfl, Nat.zero_le _, rfl, hst0⟩
  case round =>
    obtain ⟨j, W', rfl, hj, rfl, HR⟩ := hrel
    clear hst0 HR0
    have b0 : (0 : Int) ≤ (j : Int) := by omega
    have c7 := HR.out.c7
    by_cases hlt : j < n
    · have b1 : (j : Int) < (n : Int) := by omega
      obtain ⟨e1, e2⟩ := HR.out.at j hlt
      simp only [Nat.lt_irrefl, false_and, if_false, pgOf_st, pgOf_tx] at e1 e2
      obtain ⟨sj, hsj⟩ : ∃ sj, stOf P j = sj := ⟨_, rfl⟩
      obtain ⟨tj, htj⟩ : ∃ tj, txOf P j = tj := ⟨_, rfl⟩
      rw [hsj] at e1
      rw [htj] at e2
      by_cases h2 : sj = 2
      · subst h2
        have f1 := HR.out.fz (j * 2); have f2 := HR.out.fz (j * 2 + 1)
        have hs := HR.out.set j hlt pag0 (R' := fun q => if q < j + 1 ∧ stOf P q = 2 then pag0 else pgOf P q) (fun q hq => by
          by_cases e : q = j
          · rw [if_pos e, if_pos ⟨by omega, by rw [e]; exact hsj⟩]
          · rw [if_neg e]
            by_cases h3 : q < j ∧ stOf P q = 2
            · rw [if_pos h3, if_pos ⟨by omega, h3.2⟩]
            · rw [if_neg h3, if_neg (fun h => h3 ⟨by omega, h.2⟩)])
        have HS := Lib.hid hs
        clear hs hsj htj HR
        go_wp2_with fail
        go_roundw
        case rel => exact ⟨j + 1, _, rfl, by omega, by go_num, HS⟩
        case measure => simp [RowKit.intOf]; omega
      · have b2 : ¬ (sj : Int) = 2 := by omega
        have hs := HR.out.congr (R' := fun q => if q < j + 1 ∧ stOf P q = 2 then pag0 else pgOf P q) (fun q hq => by
          by_cases h3 : q < j ∧ stOf P q = 2
          · rw [if_pos h3, if_pos ⟨by omega, h3.2⟩]
          · rw [if_neg h3, if_neg (fun h => by
              by_cases e : q = j
              · rw [e, hsj] at h; exact h2 h.2
              · exact h3 ⟨by omega, h.2⟩)])
        have HS := Lib.hid hs
        clear hs hsj htj h2 HR
        go_wp2_with fail
        go_roundw
        case rel => exact ⟨j + 1, _, rfl, by omega, by go_num, HS⟩
        case measure => simp [RowKit.intOf]; omega
    · obtain rfl : j = n := by omega
      have hs : Hid (Rnd A h a j w (fun q => if 1 ≤ q ∧ (q : Int) ∈ l.take 0 then (2, []) else if stOf P q = 2 then pag0 else pgOf P q) W') := Lib.hid (HR.out.congr fun q hq => by
        rw [if_neg (show ¬ (1 ≤ q ∧ (q : Int) ∈ l.take 0) from fun h => by simp at h)]
        by_cases h3 : stOf P q = 2
        · rw [if_pos ⟨hq, h3⟩, if_pos h3]
        · rw [if_neg (show ¬ (q < j ∧ stOf P q = 2) from fun h => h3 h.2), if_neg h3])
      clear HR c7 hlt
      have HN := Lib.hid hpl
      obtain ⟨n, hn⟩ : ∃ n, n = j := ⟨_, rfl⟩
      rw [← hn] at hs HFIN HN
      go_wp2_with fail
      clear hn hj hpl b0
      go_loopw [6, 36] (fun _ c wr => ∃ (i : Nat) (W : World), W = wr ∧ i ≤ ll ∧ c = .int .i64 i ∧ Hid (Rnd A h a n w (fun q => if 1 ≤ q ∧ (q : Int) ∈ l.take i then (2, []) else if stOf P q = 2 then pag0 else pgOf P q) W)) (fun _ c _ => ll - (RowKit.intOf c).toNat)
      case atStart => exact ⟨0, _, rfl, Nat.zero_le _, rfl, hs⟩
      case round =>
        obtain ⟨i, W, rfl, hj, rfl, HR⟩ := hrel
        clear hs
        have b0 : (0 : Int) ≤ (i : Int) := by omega
        by_cases hlt : i < ll
        · have b1 : (i : Int) < (ll : Int) := by omega
          have hil : i < l.length := by rw [HLL.out]; exact hlt
          obtain ⟨b, off, rfl, hb, _, hc⟩ := (HR.out.ints HI.out).cells (by omega)
          have e0 := hc i hil
          obtain ⟨Q, hQ1, hQ2⟩ := HR.out.any
          have c7 := HR.out.c7
          obtain ⟨x, hx⟩ : ∃ x, l.getD i 0 = x := ⟨_, rfl⟩
          have CH := stHolds A h a Q x W hQ1
          rw [hQ2] at CH
          have htm := take_mem l i hil
          rw [hx] at e0 htm
          have HTM := Lib.hid htm
          clear hc hx htm hQ1 hQ2 hb
          cases hh : holdsB n x with
          | true =>
            rw [hh] at CH
            have HCH := Lib.hid CH
            have hq : ∃ q : Nat, x = (q : Int) ∧ 1 ≤ q ∧ q < n := by
              unfold holdsB at hh
              simp only [Bool.and_eq_true, decide_eq_true_eq] at hh
              exact ⟨x.toNat, by omega, by omega, by omega⟩
            obtain ⟨q, rfl, hq1, hqn⟩ := hq
            have b2 : (0 : Int) ≤ (q : Int) := by omega
            have b3 : (q : Int) < (n : Int) := by omega
            obtain ⟨e1, e2⟩ := HR.out.at q hqn
            have f1 := HR.out.fz (q * 2); have f2 := HR.out.fz (q * 2 + 1)
            have hs := HR.out.set q hqn (2, []) (R' := fun r => if 1 ≤ r ∧ (r : Int) ∈ l.take (i + 1) then (2, []) else if stOf P r = 2 then pag0 else pgOf P r) (fun r hr => by
              by_cases e : r = q
              · rw [if_pos e, if_pos ⟨by omega, (HTM.out _).2 (.inr (by rw [e]))⟩]
              · rw [if_neg e]
                exact ite_iff ⟨fun h3 => ⟨h3.1, (HTM.out _).2 (.inl h3.2)⟩, fun h => ⟨h.1, ((HTM.out _).1 h.2).resolve_right (by omega)⟩⟩ _ _)
            have HS := Lib.hid hs
            obtain ⟨u1, hu1⟩ : ∃ u : Nat, ((if 1 ≤ q ∧ (q : Int) ∈ l.take i then (2, []) else if stOf P q = 2 then pag0 else pgOf P q) : Pag).1 = u := ⟨_, rfl⟩
            obtain ⟨u2, hu2⟩ : ∃ u, ((if 1 ≤ q ∧ (q : Int) ∈ l.take i then (2, []) else if stOf P q = 2 then pag0 else pgOf P q) : Pag).2 = u := ⟨_, rfl⟩
            rw [hu1] at e1
            rw [hu2] at e2
            clear hs hh CH HR hil hu1 hu2
            go_wp2_with (go_at_call 50; refine HCH.out.mono ?_; rintro e w' ⟨rfl, rfl⟩)
            go_roundw
            case rel => exact ⟨i + 1, _, rfl, by omega, by go_num, HS⟩
            case measure => simp [RowKit.intOf]; omega
          | false =>
            rw [hh] at CH
            have HCH := Lib.hid CH
            have hs := HR.out.congr (R' := fun r => if 1 ≤ r ∧ (r : Int) ∈ l.take (i + 1) then (2, []) else if stOf P r = 2 then pag0 else pgOf P r) (fun r hr => by
              have hne : 1 ≤ r → (r : Int) ≠ x := fun h1 e => by
                unfold holdsB at hh
                rw [← e] at hh
                simp at hh
                omega
              exact ite_iff ⟨fun h3 => ⟨h3.1, (HTM.out _).2 (.inl h3.2)⟩, fun h => ⟨h.1, ((HTM.out _).1 h.2).resolve_right (hne h.1)⟩⟩ _ _)
            have HS := Lib.hid hs
            clear hs hh CH HR hil c7
            go_wp2_with (go_at_call 50; refine HCH.out.mono ?_; rintro e w' ⟨rfl, rfl⟩)
            go_roundw
            case rel => exact ⟨i + 1, _, rfl, by omega, by go_num, HS⟩
            case measure => simp [RowKit.intOf]; omega
        · obtain rfl : i = ll := by omega
          have hs := HFIN.out W (HR.out.congr fun q hq => by
            unfold keepF
            rw [List.take_of_length_le (by rw [HLL.out]; exact Nat.le_refl _)])
          have HS := Lib.hid hs
          clear hs HR
          go_wp2_with fail
          go_end0
          exact ⟨rfl, HS.out⟩

theorem stKeepNil (v : Value) (w : World) : Calls Tryz.prog 23 #[.pointer none, v] w fun e w' => e = .returned (.tuple #[]) ∧ w = w' := by
  go_enter Tryz.func23, Tryz.ntmps23
  go_wp2
  refine bodyPost_ret (results_none rfl _ _ _) rfl ?_
  exact ⟨rfl, rfl⟩
theorem stSweepNil (v : Value) (w : World) : Calls Tryz.prog 16 #[.pointer none, v] w fun e w' => e = .returned (.tuple #[]) ∧ w = w' := by
  go_enter Tryz.func16, Tryz.ntmps16
  go_wp2
  refine bodyPost_ret (results_none rfl _ _ _) rfl ?_
  exact ⟨rfl, rfl⟩

end Go.Proofs.YtefompndoopceaaGreatDoor
