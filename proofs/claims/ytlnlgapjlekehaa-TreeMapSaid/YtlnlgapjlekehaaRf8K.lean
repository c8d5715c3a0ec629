import Derived.Test.YtlnlgapjlekehaaOm8K
import Derived.Test.YtlnlgapjlekehaaRn8K
import Derived.BigQuiet
/- The reference of layer 8 (tierceref08): Range, Drop, Put: rows of pairs. -/
set_option linter.unusedVariables false
namespace Go.Proofs.Ytlnlgapjlekehaa
open Go.RowKit

theorem chg_len2 (xs : Pairs) (k : Nat) (qs : Pairs) : (chg xs k qs).length ≤ qs.length + xs.length := by
  unfold chg
  rw [List.length_append, List.length_append]
  have : (qs.filter fun p => decide (p.1 < k)).length + (qs.filter fun p => decide (k < p.1)).length ≤ qs.length := by
    induction qs with
    | nil => simp
    | cons p r ih =>
      rw [List.filter_cons, List.filter_cons]
      by_cases hp : p.1 < k
      · rw [if_pos (by simpa using hp), if_neg (by simp; omega), List.length_cons, List.length_cons]; omega
      · rw [if_neg (by simpa using hp), List.length_cons]
        split
        · rw [List.length_cons]; omega
        · omega
  omega

/-- A row of pairs that a call makes since block B. -/
def RfJ (B : Nat) (V : World) (out : Pairs) (v : Value) (W : World) : Prop := W.ownsRow B 38 2 v out.length (cellsP out) ∧ KeptIn (· < B) V W

theorem RfJ.start (w : World) : RfJ w.heap.size w [] (.slice (some ⟨w.heap.size, 0, none⟩) 0 0) (w.alloc (.cells #[] 38)) :=
  ⟨World.ownsRow_made w #[] 0 (Nat.le_refl _) (by decide) rfl, (KeptIn.refl _ w).alloc (fun _ h => h) _⟩
theorem RfJ.next {B k x : Nat} {V W w8 : World} {out : Pairs} {v v' : Value} (h : RfJ B V out v W) (hB : V.heap.size = B) (hown : w8.ownsRow B 38 2 v' (out.length + 1) (cellsP out ++ [.int .u64 (k : Int), .int .u64 (x : Int)]))
    (hgrow : (W.alloc (.cells #[.int .u64 (k : Int), .int .u64 (x : Int)] 38)).grownBy w8 v.ownBlock) : RfJ B V (out ++ [(k, x)]) v' w8 := by
  refine ⟨?_, ?_⟩
  · rw [List.length_append, cellsP_append]; exact hown
  · exact (h.2.trans (((KeptIn.refl _ W).alloc (fun _ h => h) _).mono fun k hk => Nat.lt_of_lt_of_le (by rw [hB]; exact hk) h.2.size)).grown (fun k hk => by rw [hB]; exact hk) hgrow (fun g e => Nat.not_lt.2 (rowS_lt h.1 g e).1)

theorem take_snoc (qs : Pairs) (j : Nat) (h : j < qs.length) : qs.take (j + 1) = qs.take j ++ [(keyAt qs j, valAt qs j)] := by
  rw [List.take_add_one, List.getElem?_eq_getElem h, keyAt_get h, valAt_get h]; rfl

theorem rf_bnd (j : Nat) (h : j ≤ 1000) : j + 1 ≤ maxLen ∧ (j + 1) * 16 ≤ 140737488355328 := by
  refine ⟨?_, by omega⟩
  unfold maxLen
  omega

/-- What a function of the reference answers. -/
def RfS (w : World) (out : Pairs) (e : Ending) (w' : World) : Prop := ∃ v, e = .returned v ∧ w'.ownsRow w.heap.size 38 2 v out.length (cellsP out) ∧ KeptIn (· < w.heap.size) w w'


set_option maxHeartbeats 4000000 in
set_option maxRecDepth 100000 in
theorem r8Range (a : Option Addr) (cap : Nat) (qs : Pairs) (low high : Nat) (w : World) (h : IsPs w a qs) (hl : qs.length ≤ 1000) :
    Calls Try.prog 13 #[.slice a qs.length cap, .int .u64 (low : Int), .int .u64 (high : Int)] w (RfS w (rng low high qs)) := by
  obtain ⟨n, hn⟩ : ∃ n, qs.length = n := ⟨_, rfl⟩
  have hnI : (n : Int) ≤ 1000 := by omega
  have H := Lib.hid h
  have HN := Lib.hid hn
  obtain ⟨R, hR⟩ : ∃ R, rng low high qs = R := ⟨_, rfl⟩
  have HR := Lib.hid hR
  rw [hn, hR]
  have H00 := RfJ.start w
  obtain ⟨W0, hW0⟩ : ∃ W0, w.alloc (.cells #[] 38) = W0 := ⟨_, rfl⟩
  rw [hW0] at H00
  have HW := Lib.hid hW0
  obtain ⟨B, hB⟩ : ∃ B, w.heap.size = B := ⟨_, rfl⟩
  rw [hB] at H00
  have HB := Lib.hid hB
  have HJ0 : Hid (RfJ B w (rng low high (qs.take 0)) (.slice (some ⟨B, 0, none⟩) 0 0) W0) := Lib.hid H00
  obtain ⟨ii, hii, hz0, hz1, hz2⟩ := info_parts infoPair
  clear h hn hl hR hW0 hB H00
  go_enter Try.func13, Try.ntmps13
  go_wp2_with fail
  rw [HW.out]
  simp only [HB.out]
  go_loopw [7, 8] (fun v i wr => ∃ (j : Nat) (W : World) (v0 : Value), W = wr ∧ v0 = v ∧ j ≤ n ∧ i = .int .i64 (j : Int) ∧ Hid (RfJ B w (rng low high (qs.take j)) v0 W)) (fun _ i _ => n - (intOf i).toNat)
  case atStart => exact ⟨0, _, _, rfl, rfl, Nat.zero_le _, rfl, HJ0⟩
  case round =>
    obtain ⟨j, W, v0, rfl, rfl, hj, rfl, HJ⟩ := hrel
    clear HJ0
    by_cases hlt : j < n
    · have d0 : (0 : Int) ≤ (j : Int) := by omega
      have d1 : (j : Int) < (n : Int) := by omega
      have hjl : j < qs.length := by rw [HN.out]; exact hlt
      have hBW : B ≤ W.heap.size := by have := HJ.out.2.size; rw [HB.out] at this; exact this
      obtain ⟨b, off, rfl, hb, hc⟩ := (H.out.old (HJ.out.2.mono fun k hk => by rw [← HB.out]; exact hk)).cells (by omega)
      obtain ⟨c1, c2⟩ := hc j hjl
      have hts := take_snoc qs j hjl
      obtain ⟨kk, hkk⟩ : ∃ kk, keyAt qs j = kk := ⟨_, rfl⟩
      obtain ⟨vv, hvv⟩ : ∃ vv, valAt qs j = vv := ⟨_, rfl⟩
      rw [hkk] at c1
      rw [hvv] at c2
      rw [hkk, hvv] at hts
      obtain ⟨hb1, hb2⟩ := rf_bnd (rng low high (qs.take j)).length (Nat.le_trans (rng_len _ _ _) (by rw [List.length_take]; omega))
      by_cases h1 : low ≤ kk
      · have u1 : (low : Int) ≤ (kk : Int) := by omega
        by_cases h2 : kk ≤ high
        · have u2 : (kk : Int) ≤ (high : Int) := by omega
          have HT : Hid (rng low high (qs.take (j + 1)) = rng low high (qs.take j) ++ [(kk, vv)]) := Lib.hid (by
            rw [hts, rng_append]
            congr 1
            exact rng_all fun p hp => by rw [List.mem_singleton.1 hp]; exact ⟨h1, h2⟩)
          clear hc hts hkk hvv hjl
          go_wp2_with (at_builtin; refine wpList_append_own _ rfl _ _ 29 rfl B 38 ii _ 2 16 Try.underlying29 hii hz0 hz1 hz2 rfl (by decide) _ _ _ rfl (HJ.out.1.alloc _) ⟨W.heap.size, 0, none⟩ 1 1 [.int .u64 (kk : Int), .int .u64 (vv : Int)] rfl rfl (World.news_of_block (cs := #[.int .u64 (kk : Int), .int .u64 (vv : Int)]) (t := 38) (fr := (0, 0)) (heap_alloc_new W _)) (by simp [Value.oneCell']) hb1 hb2 (by rw [World.size_alloc]; exact Nat.le_succ_of_le hBW) ?_)
          intro v' w8 hown hgrow _
          have HJ2 : Hid (RfJ B w (rng low high (qs.take (j + 1))) v' w8) := Lib.hid (by rw [HT.out]; exact HJ.out.next HB.out hown hgrow)
          clear hown hgrow HJ HT hb1 hb2 c1 c2
          go_wp2_with fail
          go_roundw
          case rel => exact ⟨j + 1, _, _, rfl, rfl, by omega, by go_num, HJ2⟩
          case measure => simp only [intOf]; omega
        · have u2 : ¬ (kk : Int) ≤ (high : Int) := by omega
          have HJ2 : Hid (RfJ B w (rng low high (qs.take (j + 1))) v0 W) := Lib.hid (by
            rw [hts, rng_append, rng_above (qs := [(kk, vv)]) (fun p hp => by rw [List.mem_singleton.1 hp]; exact Nat.not_le.1 h2), List.append_nil]; exact HJ.out)
          clear hc hts hkk hvv hjl HJ hb1 hb2
          go_wp2_with fail
          go_roundw
          case rel => exact ⟨j + 1, _, _, rfl, rfl, by omega, by go_num, HJ2⟩
          case measure => simp only [intOf]; omega
      · have u1 : ¬ (low : Int) ≤ (kk : Int) := by omega
        have HJ2 : Hid (RfJ B w (rng low high (qs.take (j + 1))) v0 W) := Lib.hid (by
          rw [hts, rng_append, rng_below (qs := [(kk, vv)]) (fun p hp => by rw [List.mem_singleton.1 hp]; exact Nat.not_le.1 h1), List.append_nil]; exact HJ.out)
        clear hc hts hkk hvv hjl HJ hb1 hb2
        go_wp2_with fail
        go_roundw
        case rel => exact ⟨j + 1, _, _, rfl, rfl, by omega, by go_num, HJ2⟩
        case measure => simp only [intOf]; omega
    · have d1 : ¬ (j : Int) < (n : Int) := by omega
      have HE : Hid (RfS w R (.returned v0) W) := Lib.hid (by
        have := HJ.out
        rw [List.take_of_length_le (by rw [HN.out]; omega), HR.out] at this
        exact ⟨v0, rfl, by rw [HB.out]; exact this.1, by rw [HB.out]; exact this.2⟩)
      clear HJ
      go_wp2_with fail
      go_ret
      exact HE.out

/-- Without a key. -/
def drp (key : Nat) (qs : Pairs) : Pairs := qs.filter fun p => decide (p.1 ≠ key)
theorem drp_append (key : Nat) (a b : Pairs) : drp key (a ++ b) = drp key a ++ drp key b := by simp [drp]
theorem drp_len (key : Nat) (qs : Pairs) : (drp key qs).length ≤ qs.length := List.length_filter_le _ _
def RdrS (w : World) (out : Pairs) (b : Bool) (e : Ending) (w' : World) : Prop := ∃ v, e = .returned (.tuple #[v, .bool b]) ∧ w'.ownsRow w.heap.size 38 2 v out.length (cellsP out) ∧ KeptIn (· < w.heap.size) w w'

set_option maxHeartbeats 4000000 in
set_option maxRecDepth 100000 in
theorem r8Drop (a : Option Addr) (cap : Nat) (qs : Pairs) (key : Nat) (w : World) (h : IsPs w a qs) (hl : qs.length ≤ 1000) :
    Calls Try.prog 11 #[.slice a qs.length cap, .int .u64 (key : Int)] w (RdrS w (drp key qs) (decide ((drp key qs).length < qs.length))) := by
  obtain ⟨n, hn⟩ : ∃ n, qs.length = n := ⟨_, rfl⟩
  have hnI : (n : Int) ≤ 1000 := by omega
  have H := Lib.hid h
  have HN := Lib.hid hn
  obtain ⟨R, hR⟩ : ∃ R, drp key qs = R := ⟨_, rfl⟩
  have HR := Lib.hid hR
  rw [hn, hR]
  have H00 := RfJ.start w
  obtain ⟨W0, hW0⟩ : ∃ W0, w.alloc (.cells #[] 38) = W0 := ⟨_, rfl⟩
  rw [hW0] at H00
  have HW := Lib.hid hW0
  obtain ⟨B, hB⟩ : ∃ B, w.heap.size = B := ⟨_, rfl⟩
  rw [hB] at H00
  have HB := Lib.hid hB
  have HJ0 : Hid (RfJ B w (drp key (qs.take 0)) (.slice (some ⟨B, 0, none⟩) 0 0) W0) := Lib.hid H00
  obtain ⟨ii, hii, hz0, hz1, hz2⟩ := info_parts infoPair
  clear h hn hl hR hW0 hB H00
  go_enter Try.func11, Try.ntmps11
  go_wp2_with fail
  rw [HW.out]
  simp only [HB.out]
  go_loopw [6, 7] (fun v i wr => ∃ (j : Nat) (W : World) (v0 : Value), W = wr ∧ v0 = v ∧ j ≤ n ∧ i = .int .i64 (j : Int) ∧ Hid (RfJ B w (drp key (qs.take j)) v0 W)) (fun _ i _ => n - (intOf i).toNat)
  case atStart => exact ⟨0, _, _, rfl, rfl, Nat.zero_le _, rfl, HJ0⟩
  case round =>
    obtain ⟨j, W, v0, rfl, rfl, hj, rfl, HJ⟩ := hrel
    clear HJ0
    by_cases hlt : j < n
    · have d0 : (0 : Int) ≤ (j : Int) := by omega
      have d1 : (j : Int) < (n : Int) := by omega
      have hjl : j < qs.length := by rw [HN.out]; exact hlt
      have hBW : B ≤ W.heap.size := by have := HJ.out.2.size; rw [HB.out] at this; exact this
      obtain ⟨b, off, rfl, hb, hc⟩ := (H.out.old (HJ.out.2.mono fun k hk => by rw [← HB.out]; exact hk)).cells (by omega)
      obtain ⟨c1, c2⟩ := hc j hjl
      have hts := take_snoc qs j hjl
      obtain ⟨kk, hkk⟩ : ∃ kk, keyAt qs j = kk := ⟨_, rfl⟩
      obtain ⟨vv, hvv⟩ : ∃ vv, valAt qs j = vv := ⟨_, rfl⟩
      rw [hkk] at c1
      rw [hvv] at c2
      rw [hkk, hvv] at hts
      obtain ⟨hb1, hb2⟩ := rf_bnd (drp key (qs.take j)).length (Nat.le_trans (drp_len _ _) (by rw [List.length_take]; omega))
      by_cases h1 : kk = key
      · have u1 : ((kk : Int) != (key : Int)) = false := by rw [h1]; simp
        have HJ2 : Hid (RfJ B w (drp key (qs.take (j + 1))) v0 W) := Lib.hid (by
          rw [hts, drp_append, show drp key [(kk, vv)] = [] by simp [drp, h1], List.append_nil]; exact HJ.out)
        subst h1
        clear hc hts hkk hvv hjl HJ hb1 hb2
        go_wp2_with fail
        go_roundw
        case rel => exact ⟨j + 1, _, _, rfl, rfl, by omega, by go_num, HJ2⟩
        case measure => simp only [intOf]; omega
      · have u1 : ((kk : Int) != (key : Int)) = true := by rw [bne_iff_ne]; omega
        have u2 : ¬ (kk : Int) = (key : Int) := by omega
        have HT : Hid (drp key (qs.take (j + 1)) = drp key (qs.take j) ++ [(kk, vv)]) := Lib.hid (by
          rw [hts, drp_append, show drp key [(kk, vv)] = [(kk, vv)] by simp [drp, h1]])
        clear hc hts hkk hvv hjl
        go_wp2_with (at_builtin; refine wpList_append_own _ rfl _ _ 29 rfl B 38 ii _ 2 16 Try.underlying29 hii hz0 hz1 hz2 rfl (by decide) _ _ _ rfl (HJ.out.1.alloc _) ⟨W.heap.size, 0, none⟩ 1 1 [.int .u64 (kk : Int), .int .u64 (vv : Int)] rfl rfl (World.news_of_block (cs := #[.int .u64 (kk : Int), .int .u64 (vv : Int)]) (t := 38) (fr := (0, 0)) (heap_alloc_new W _)) (by simp [Value.oneCell']) hb1 hb2 (by rw [World.size_alloc]; exact Nat.le_succ_of_le hBW) ?_)
        intro v' w8 hown hgrow _
        have HJ2 : Hid (RfJ B w (drp key (qs.take (j + 1))) v' w8) := Lib.hid (by rw [HT.out]; exact HJ.out.next HB.out hown hgrow)
        clear hown hgrow HJ HT hb1 hb2 c1 c2
        go_wp2_with fail
        go_roundw
        case rel => exact ⟨j + 1, _, _, rfl, rfl, by omega, by go_num, HJ2⟩
        case measure => simp only [intOf]; omega
    · have d1 : ¬ (j : Int) < (n : Int) := by omega
      have hjo := HJ.out
      rw [List.take_of_length_le (by rw [HN.out]; omega), HR.out] at hjo
      obtain ⟨a9, c9, rfl, -⟩ := row_slice hjo.1
      have HE : Hid (RdrS w R (decide (R.length < n)) (.returned (.tuple #[.slice a9 R.length c9, .bool (decide (R.length < n))])) W) := Lib.hid ⟨_, rfl, by rw [HB.out]; exact hjo.1, by rw [HB.out]; exact hjo.2⟩
      obtain ⟨m, hm⟩ : ∃ m, R.length = m := ⟨_, rfl⟩
      have hm1 : (m : Int) ≤ 1000 := by
        have h9 : R.length ≤ qs.length := by rw [← HR.out]; exact List.length_filter_le _ _
        have := HN.out
        omega
      have HME := Lib.hid hm
      rw [hm]
      by_cases hmn : m < n
      · have v1 : (m : Int) < (n : Int) := by omega
        rw [hm, decide_eq_true hmn] at HE
        have HD : Hid (decide (R.length < n) = true) := Lib.hid (by rw [hm]; exact decide_eq_true hmn)
        clear HJ hjo hm hmn
        go_wp2_with fail
        go_ret2
        rw [HD.out]
        exact HE.out
      · have v1 : ¬ (m : Int) < (n : Int) := by omega
        rw [hm, decide_eq_false hmn] at HE
        have HD : Hid (decide (R.length < n) = false) := Lib.hid (by rw [hm]; exact decide_eq_false hmn)
        clear HJ hjo hm hmn
        go_wp2_with fail
        go_ret2
        rw [HD.out]
        exact HE.out

/-- Whether a pair is put already, and what stands then. -/
def dnP (k : Nat) (qs : Pairs) : Bool := qs.any fun p => decide (k ≤ p.1)
def outP (k v : Nat) (qs : Pairs) : Pairs := (qs.filter fun p => decide (p.1 < k)) ++ (if dnP k qs = true then [(k, v)] else []) ++ qs.filter fun p => decide (k < p.1)

theorem outP_len (k v : Nat) (qs : Pairs) : (outP k v qs).length ≤ qs.length + 1 := by
  have := chg_len2 [(k, v)] k qs
  unfold chg at this
  unfold outP
  split
  · simpa using this
  · rw [List.append_nil]
    simp only [List.length_append, List.length_singleton] at this ⊢
    omega
theorem dn_snoc (k : Nat) (a : Pairs) (e : Nat × Nat) : dnP k (a ++ [e]) = (dnP k a || decide (k ≤ e.1)) := by simp [dnP]
theorem dn_low {k : Nat} {a : Pairs} {e : Nat × Nat} (hs : Srt (a ++ [e])) (he : e.1 ≤ k) : dnP k a = false := by
  unfold dnP
  rw [List.any_eq_false]
  intro p hp
  have := (List.pairwise_append.1 hs).2.2 p hp e (by simp)
  simp; omega
theorem gt_none {k : Nat} {a : Pairs} (h : dnP k a = false) : (a.filter fun p => decide (k < p.1)) = [] := by
  rw [List.filter_eq_nil_iff]
  intro p hp
  unfold dnP at h
  have := List.any_eq_false.1 h p hp
  simp at this ⊢
  omega
theorem out_A {k v : Nat} {a : Pairs} {e : Nat × Nat} (hs : Srt (a ++ [e])) (he : e.1 < k) : outP k v (a ++ [e]) = outP k v a ++ [e] ∧ dnP k (a ++ [e]) = false ∧ dnP k a = false := by
  have h1 := dn_low hs (Nat.le_of_lt he)
  have h2 : dnP k (a ++ [e]) = false := by rw [dn_snoc, h1]; simp; omega
  refine ⟨?_, h2, h1⟩
  unfold outP
  rw [gt_none h1, gt_none h2, h1, h2, List.filter_append]
  simp [he]
theorem out_B {k v : Nat} {a : Pairs} {e : Nat × Nat} (hs : Srt (a ++ [e])) (he : e.1 = k) : outP k v (a ++ [e]) = outP k v a ++ [(k, v)] ∧ dnP k (a ++ [e]) = true ∧ dnP k a = false := by
  have h1 := dn_low hs (Nat.le_of_eq he)
  have h2 : dnP k (a ++ [e]) = true := by rw [dn_snoc]; simp; omega
  refine ⟨?_, h2, h1⟩
  unfold outP
  rw [List.filter_append, List.filter_append, gt_none h1, h1, h2]
  simp [he]
theorem out_C {k v : Nat} {a : Pairs} {e : Nat × Nat} (he : k < e.1) (hd : dnP k a = true) : outP k v (a ++ [e]) = outP k v a ++ [e] ∧ dnP k (a ++ [e]) = true := by
  have h2 : dnP k (a ++ [e]) = true := by rw [dn_snoc, hd]; rfl
  refine ⟨?_, h2⟩
  unfold outP
  rw [List.filter_append, List.filter_append, hd, h2]
  have h3 : ¬ e.1 < k := by omega
  simp [he, h3]
theorem out_D {k v : Nat} {a : Pairs} {e : Nat × Nat} (he : k < e.1) (hd : dnP k a = false) : outP k v (a ++ [e]) = (outP k v a ++ [(k, v)]) ++ [e] ∧ dnP k (a ++ [e]) = true := by
  have h2 : dnP k (a ++ [e]) = true := by rw [dn_snoc]; simp; omega
  refine ⟨?_, h2⟩
  unfold outP
  rw [List.filter_append, List.filter_append, gt_none hd, hd, h2]
  have h3 : ¬ e.1 < k := by omega
  simp [he, h3]
theorem out_end (k v : Nat) (qs : Pairs) : (if dnP k qs = true then outP k v qs else outP k v qs ++ [(k, v)]) = chg [(k, v)] k qs := by
  unfold outP chg
  cases h : dnP k qs with
  | true => simp
  | false => simp [gt_none h]

end Go.Proofs.Ytlnlgapjlekehaa
