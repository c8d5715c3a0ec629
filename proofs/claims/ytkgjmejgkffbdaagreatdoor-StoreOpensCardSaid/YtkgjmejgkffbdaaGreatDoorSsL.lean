import Derived.Test.YtkgjmejgkffbdaaGreatDoorM12
/- A store's Sweep. -/
set_option linter.unusedVariables false
namespace Go.Proofs.YtkgjmejgkffbdaaGreatDoor
open Go.RowKit

theorem made_bool (n : Nat) : (madeCells #[.bool false] n).toList = List.replicate n (.bool false) := by
  rw [List.eq_replicate_iff]
  refine ⟨by simp [madeCells], fun b hb => ?_⟩
  unfold madeCells at hb
  rw [Array.toList_map, List.mem_map] at hb
  obtain ⟨i, _, rfl⟩ := hb
  rw [show i % (#[Value.bool false] : Array Value).size = 0 from Nat.mod_one i]
  rfl
theorem infoBool : (Tryz.prog.info? 4).map (fun i => (i.zero, i.size, i.bytes)) = some (some (.bool false), 1, 1) := by kernel_rfl

/-- A row of bools in a block. -/
def BlRow (g : Nat) (F : List Bool) (W : World) : Prop := W.heap[g]? = some (.cells (F.map Value.bool).toArray 4 (0, 0))
section
variable {g : Nat} {F : List Bool} {W W' : World}
theorem BlRow.lt (h : BlRow g F W) : g < W.heap.size := (Array.getElem?_eq_some_iff.1 h).1
theorem BlRow.kept {X : Nat → Prop} (h : BlRow g F W) (hk : KeptIn X W W') (hX : X g) : BlRow g F W' := (hk.block g hX).trans h
theorem BlRow.at (h : BlRow g F W) (i : Nat) (hi : i < F.length) : W.cell? ⟨g, i, none⟩ = some (.bool (F.getD i false)) := by
  rw [cell_of_row _ _ _ _ _ _ h]
  simp [List.getD_eq_getElem?_getD, hi]
theorem BlRow.fz (h : BlRow g F W) (i : Nat) : W.frozen? ⟨g, i, none⟩ = false := by simp [World.frozen?, show W.heap[g]? = _ from h]
theorem BlRow.set (h : BlRow g F W) (i : Nat) (b : Bool) : BlRow g (F.set i b) (W.setCell ⟨g, i, none⟩ (.bool b)) := by
  have h1 := heap_setCell_same W g i _ _ (.bool b) h
  refine h1.trans ?_
  rw [List.map_set]
  simp
/-- A row that was made. -/
theorem BlRow.made {w w1 : World} {n : Nat} (hown : w1.ownsRow w.heap.size 4 1 (.slice (some ⟨w.heap.size, 0, none⟩) n n) n (madeCells (Value.bool false).cells (n * 1)).toList) : BlRow w.heap.size (List.replicate n false) w1 := by
  rcases hown.2 with ⟨h1, _⟩ | ⟨g, cap, cur, h1, _, h2, _, _, h3, h4⟩
  · cases h1
  · simp only [Value.slice.injEq, Option.some.injEq, Addr.mk.injEq, and_true, true_and] at h1
    obtain ⟨rfl, rfl⟩ := h1
    rw [List.take_of_length_le (by rw [Array.length_toList, h3]; exact Nat.le_refl _)] at h4
    have e : (madeCells (Value.bool false).cells (n * 1)).toList = ((List.replicate n false).map Value.bool) := by
      rw [Nat.mul_one, List.map_replicate]
      exact made_bool n
    rw [e] at h4
    unfold BlRow
    rw [h2, ← h4]
end

/-- Which numbers from 1 on are among the first j. -/
def flags (n : Nat) (l : List Int) (j : Nat) : List Bool := (List.range n).map fun q : Nat => decide (1 ≤ q ∧ (q : Int) ∈ l.take j)
theorem flags_length (n : Nat) (l : List Int) (j : Nat) : (flags n l j).length = n := by simp [flags]
theorem flags_at (n : Nat) (l : List Int) (j q : Nat) (hq : q < n) : (flags n l j).getD q false = decide (1 ≤ q ∧ (q : Int) ∈ l.take j) := by
  rw [List.getD_eq_getElem?_getD, flags, List.getElem?_map, List.getElem?_range hq]
  rfl
theorem flags_zero (n : Nat) (l : List Int) : flags n l 0 = List.replicate n false := by
  rw [List.eq_replicate_iff]
  refine ⟨flags_length _ _ _, fun b hb => ?_⟩
  simp only [flags, List.mem_map] at hb
  obtain ⟨q, _, rfl⟩ := hb
  simp
theorem flags_set (n : Nat) (l : List Int) (j q : Nat) (hj : j < l.length) (hq : q < n) (h1 : 1 ≤ q) (e : l.getD j 0 = (q : Int)) : (flags n l j).set q true = flags n l (j + 1) := by
  apply List.ext_getElem
  · simp [flags]
  · intro r r1 r2
    rw [List.getElem_set]
    simp only [flags, List.getElem_map, List.getElem_range]
    have ht := take_mem l j hj (r : Int)
    rw [e] at ht
    by_cases er : q = r
    · rw [if_pos er]
      symm
      exact decide_eq_true ⟨by omega, ht.2 (.inr (by omega))⟩
    · rw [if_neg er]
      by_cases h2 : 1 ≤ r ∧ (r : Int) ∈ l.take j
      · rw [decide_eq_true h2, decide_eq_true ⟨h2.1, ht.2 (.inl h2.2)⟩]
      · rw [decide_eq_false h2, decide_eq_false (fun h => h2 ⟨h.1, (ht.1 h.2).resolve_right (by omega)⟩)]
theorem flags_same (n : Nat) (l : List Int) (j : Nat) (hj : j < l.length) (h : ∀ q : Nat, 1 ≤ q → q < n → l.getD j 0 ≠ (q : Int)) : flags n l j = flags n l (j + 1) := by
  unfold flags
  apply List.map_congr_left
  intro r hr
  rw [List.mem_range] at hr
  have ht := take_mem l j hj (r : Int)
  by_cases h2 : 1 ≤ r ∧ (r : Int) ∈ l.take j
  · rw [decide_eq_true h2, decide_eq_true ⟨h2.1, ht.2 (.inl h2.2)⟩]
  · rw [decide_eq_false h2, decide_eq_false (fun h' => h2 ⟨h'.1, (ht.1 h'.2).resolve_right (fun e => h r h'.1 hr e.symm)⟩)]

set_option maxHeartbeats 2000000 in
theorem stSweep {A : Ad} {N : Nat} {p : Pw} {S : List (List UInt8)} {M : Int → Option (List UInt8)} {h : Hd} {a : Nat} {P : List Pag} {w : World} (k : Sv A N p S M h a P w) (a' : Option Addr) (cap : Nat) (l : List Int) (hi : IntsIn A w a' l) :
    Calls Tryz.prog 14 #[.pointer (some ⟨A.st, 0, none⟩), .slice a' l.length cap] w fun e w' => e = .returned (.tuple #[]) ∧ Sv A N p S M h a (sweepP P l) w' ∧ Fr A w w' := by
  have hfin : ∀ W, Rnd A h a P.length w (sweepF P l) W → Sv A N p S M h a (sweepP P l) W ∧ Fr A w W := fun W r =>
    r.fin k (sweepP_length P l) (fun q hq => by rw [sweepP, pgOf_map _ _ _ hq])
      (fun q => by
        rw [sweepP_st]
        have := k.sts q
        split
        · exact Nat.zero_le _
        · exact this)
      (fun q hq => by
        obtain ⟨e1, e2⟩ := sweepP_tx P l q hq
        rw [e1]
        exact k.txs q e2)
  obtain ⟨ib, hib, hz0, hz1, hz2⟩ := info_parts infoBool
  obtain ⟨n, hn⟩ : ∃ n, P.length = n := ⟨_, rfl⟩
  obtain ⟨ll, hll⟩ : ∃ ll, l.length = ll := ⟨_, rfl⟩
  have hpl := k.plen.1
  have hm : (ll : Int) ≤ 9223372036854775807 := by have := hi.len; unfold maxLen at this; omega
  have r0 : Rnd A h a n w (fun q => pgOf P q) w := ⟨⟨P, k.isS, hn, fun _ _ => rfl⟩, .refl _ _⟩
  have c7 := r0.c7
  rw [hn] at hfin hpl
  have HFIN := Lib.hid hfin
  have HI := Lib.hid hi
  have HLL := Lib.hid hll
  have HR0 := Lib.hid r0
  have HLT := Lib.hid (And.intro k.isS.lts k.isS.ltp)
  have HN : Hid (n ≤ 512) := Lib.hid hpl
  rw [hll]
  clear hfin k hi hll hn r0
  go_enter Tryz.func14, Tryz.ntmps14
  go_wp2_with (at_make; refine wpList_make_full _ rfl _ _ 59 rfl w.heap.size 4 ib _ 1 Tryz.underlying59 hib hz0 hz1 .i64 .i64 n n n rfl rfl rfl rfl (by rw [hz2]; omega) (by unfold maxLen; omega) (Nat.le_refl _) ?_; intro w1 hown hgrow)
  have hk1 : KeptIn (· < w.heap.size) w w1 := (KeptIn.refl _ w).grown (fun _ h => h) hgrow (by simp)
  have hrow := BlRow.made hown
  obtain ⟨g, hg⟩ : ∃ g, w.heap.size = g := ⟨_, rfl⟩
  rw [hg] at hrow ⊢
  have hst0 : Hid (BlRow g (flags n l 0) w1 ∧ KeptIn (· < g) w w1) := Lib.hid ⟨by rw [flags_zero]; exact hrow, hg ▸ hk1⟩
  have HG : Hid (w.heap.size = g ∧ A.st < g ∧ A.pg < g) := Lib.hid ⟨hg, by rw [← hg]; exact HLT.out.1, by rw [← hg]; exact HLT.out.2⟩
  clear hown hgrow hk1 hrow hg HLT c7 hib hz0 hz1 hz2
  go_wp2_with fail
  go_loopw [6, 18] (fun _ c wr => ∃ (i : Nat) (W : World), W = wr ∧ i ≤ ll ∧ c = .int .i64 i ∧ Hid (BlRow g (flags n l i) W ∧ KeptIn (· < g) w W)) (fun _ c _ => ll - (RowKit.intOf c).toNat)
  case atStart => exact ⟨0, _, rfl, Nat.zero_le _, rfl, hst0⟩
  case round =>
    obtain ⟨i, W, rfl, hj, rfl, HB⟩ := hrel
    clear hst0
    have b0 : (0 : Int) ≤ (i : Int) := by omega
    obtain ⟨Q, hQ1', hQ2⟩ := HR0.out.any
    have hQ1 : StAt A h a Q W := hQ1'.kept HB.out.2 HG.out.2.1 HG.out.2.2
    have c7 := hQ1.c7
    rw [hQ2] at c7
    by_cases hlt : i < ll
    · have b1 : (i : Int) < (ll : Int) := by omega
      have hil : i < l.length := by rw [HLL.out]; exact hlt
      obtain ⟨b, off, rfl, hb, _, hc⟩ := (HI.out.old (HG.out.1 ▸ HB.out.2)).cells (by omega)
      have e0 := hc i hil
      obtain ⟨x, hx⟩ : ∃ x, l.getD i 0 = x := ⟨_, rfl⟩
      have CH := stHolds A h a Q x W hQ1
      rw [hQ2] at CH
      rw [hx] at e0
      have HX := Lib.hid hx
      clear hc hx hQ1 hQ1' hQ2 hb
      cases hh : holdsB n x with
      | true =>
        rw [hh] at CH
        have HCH := Lib.hid CH
        have hq : ∃ q : Nat, x = (q : Int) ∧ 1 ≤ q ∧ q < n := by
          unfold holdsB at hh
          simp only [Bool.and_eq_true, decide_eq_true_eq] at hh
          exact ⟨x.toNat, by omega, by omega, by omega⟩
        obtain ⟨q, rfl, hq1, hqn⟩ := hq
        have b2 : (0 : Int) ≤ (q : Int) := by omega
        have b3 : (q : Int) < (n : Int) := by omega
        have e1 := HB.out.1.at q (by rw [flags_length]; exact hqn)
        have f1 := HB.out.1.fz q
        have hs : BlRow g (flags n l (i + 1)) (W.setCell ⟨g, q, none⟩ (.bool true)) ∧ KeptIn (· < g) w (W.setCell ⟨g, q, none⟩ (.bool true)) :=
          ⟨by rw [← flags_set n l i q hil hqn hq1 HX.out]; exact HB.out.1.set q true, HB.out.2.setCell (p := ⟨g, q, none⟩) (Nat.lt_irrefl g) _⟩
        have HS := Lib.hid hs
        obtain ⟨u1, hu1⟩ : ∃ u, (flags n l i).getD q false = u := ⟨_, rfl⟩
        rw [hu1] at e1
        clear hs hh CH HB hil hu1 hq1 hqn hpl
        go_wp2_with (go_at_call 43; refine HCH.out.mono ?_; rintro e w' ⟨rfl, rfl⟩)
        go_roundw
        case rel => exact ⟨i + 1, _, rfl, by omega, by go_num, HS⟩
        case measure => simp [RowKit.intOf]; omega
      | false =>
        rw [hh] at CH
        have HCH := Lib.hid CH
        have hs : BlRow g (flags n l (i + 1)) W ∧ KeptIn (· < g) w W := ⟨by
          rw [← flags_same n l i hil fun q h1 h2 e => by
            rw [HX.out] at e
            unfold holdsB at hh
            rw [e] at hh
            simp at hh
            omega]
          exact HB.out.1, HB.out.2⟩
        have HS := Lib.hid hs
        clear hs hh CH HB hil hpl
        go_wp2_with (go_at_call 43; refine HCH.out.mono ?_; rintro e w' ⟨rfl, rfl⟩)
        go_roundw
        case rel => exact ⟨i + 1, _, rfl, by omega, by go_num, HS⟩
        case measure => simp [RowKit.intOf]; omega
    · obtain rfl : i = ll := by omega
      have hr1 : Rnd A h a n w (fun q => if q < 0 then sweepF P l q else pgOf P q) W := by
        obtain ⟨Q0, p1, p2, p3⟩ := HR0.out.ex
        exact ⟨⟨Q0, p1.kept HB.out.2 HG.out.2.1 HG.out.2.2, p2, fun q hq => by rw [p3 q hq, if_neg (by omega)]⟩, HB.out.2.mono fun k hk => by rw [← HG.out.1]; exact hk.1⟩
      have hb1 : BlRow g (flags n l l.length) W := by rw [HLL.out]; exact HB.out.1
      have hst1 := Lib.hid (And.intro hr1 hb1)
      clear hr1 hb1 HB HR0 hQ1' hQ1 hQ2
      go_wp2_with fail
      clear c7
      go_loopw [7, 34] (fun _ c wr => ∃ (j : Nat) (W' : World), W' = wr ∧ j ≤ n ∧ c = .int .i64 j ∧ Hid (Rnd A h a n w (fun q => if q < j then sweepF P l q else pgOf P q) W' ∧ BlRow g (flags n l l.length) W')) (fun _ c _ => n - (RowKit.intOf c).toNat)
      case atStart => exact ⟨0, _, rfl, Nat.zero_le _, rfl, hst1⟩
      case round =>
        obtain ⟨j, W', rfl, hj, rfl, HR⟩ := hrel
        clear hst1
        have b0 : (0 : Int) ≤ (j : Int) := by omega
        have c7 := HR.out.1.c7
        by_cases hlt : j < n
        · have b1 : (j : Int) < (n : Int) := by omega
          obtain ⟨e1, e2⟩ := HR.out.1.at j hlt
          rw [if_neg (Nat.lt_irrefl j)] at e1 e2
          rw [pgOf_st] at e1
          rw [pgOf_tx] at e2
          have e3 := HR.out.2.at j (by rw [flags_length]; exact hlt)
          rw [flags_at n l l.length j hlt, List.take_length] at e3
          obtain ⟨sj, hsj⟩ : ∃ sj, stOf P j = sj := ⟨_, rfl⟩
          obtain ⟨tj, htj⟩ : ∃ tj, txOf P j = tj := ⟨_, rfl⟩
          rw [hsj] at e1
          rw [htj] at e2
          have f1 := HR.out.1.fz (j * 2); have f2 := HR.out.1.fz (j * 2 + 1)
          have hstep : ∀ q, (if q < j + 1 then sweepF P l q else pgOf P q) = if q = j then sweepF P l j else if q < j then sweepF P l q else pgOf P q := fun q => by
            by_cases e : q = j
            · rw [if_pos e, if_pos (by omega), e]
            · rw [if_neg e]
              by_cases h3 : q < j
              · rw [if_pos h3, if_pos (by omega)]
              · rw [if_neg h3, if_neg (by omega)]
          have hskip : sweepF P l j = pgOf P j → Rnd A h a n w (fun q => if q < j + 1 then sweepF P l q else pgOf P q) W' ∧ BlRow g (flags n l l.length) W' := fun hsk =>
            ⟨HR.out.1.congr fun q hq => by
              rw [hstep q]
              by_cases e : q = j
              · rw [if_pos e, e, if_neg (Nat.lt_irrefl j), hsk]
              · rw [if_neg e], HR.out.2⟩
          by_cases h1 : sj = 1
          · by_cases hin : 1 ≤ j ∧ (j : Int) ∈ l
            · rw [decide_eq_true hin] at e3
              have HS := Lib.hid (hskip (by unfold sweepF; rw [if_neg (fun h => h.2 hin)]))
              subst h1
              clear hskip hstep hsj htj hin HR
              go_wp2_with fail
              go_roundw
              case rel => exact ⟨j + 1, _, rfl, by omega, by go_num, HS⟩
              case measure => simp [RowKit.intOf]; omega
            · rw [decide_eq_false hin] at e3
              have hset := HR.out.1.set j hlt pag0 (R' := fun q => if q < j + 1 then sweepF P l q else pgOf P q) (fun q hq => by
                rw [hstep q]
                by_cases e : q = j
                · rw [if_pos e, if_pos e]; unfold sweepF; rw [if_pos ⟨by rw [hsj]; exact h1, hin⟩]
                · rw [if_neg e, if_neg e])
              have hne : A.pg ≠ g := fun e => Nat.lt_irrefl g (e ▸ HG.out.2.2)
              have hb2 := HR.out.2.kept (((KeptIn.refl (· ≠ A.pg) W').setCell (p := ⟨A.pg, j * 2, none⟩) (by simp) (.int .i64 ((pag0.1 : Nat) : Int))).setCell (p := ⟨A.pg, j * 2 + 1, none⟩) (by simp) (.string ⟨pag0.2.toArray⟩)) hne.symm
              have HS := Lib.hid (And.intro hset hb2)
              subst h1
              clear hskip hstep hsj htj hin HR hset hb2 hne
              go_wp2_with fail
              go_roundw
              case rel => exact ⟨j + 1, _, rfl, by omega, by go_num, HS⟩
              case measure => simp [RowKit.intOf]; omega
          · have b2 : ¬ (sj : Int) = 1 := by omega
            have HS := Lib.hid (hskip (by unfold sweepF; rw [if_neg (fun h => h1 (hsj ▸ h.1))]))
            clear hskip hstep hsj htj HR h1
            go_wp2_with fail
            go_roundw
            case rel => exact ⟨j + 1, _, rfl, by omega, by go_num, HS⟩
            case measure => simp [RowKit.intOf]; omega
        · obtain rfl : j = n := by omega
          have hs := HFIN.out W' (HR.out.1.congr fun q hq => by rw [if_pos hq])
          have HS := Lib.hid hs
          clear hs HR
          go_wp2_with fail
          go_end0
          exact ⟨rfl, HS.out⟩

end Go.Proofs.YtkgjmejgkffbdaaGreatDoor
