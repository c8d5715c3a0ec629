import Derived.Test.YtjollbaohopmjaaKt9W
import Derived.Test.YtjollbaohopmjaaCw9W
/- Package reach's Refs over sound trees. -/
set_option linter.unusedVariables false
namespace Go.Proofs.Ytjollbaohopmjaa
open Go.RowKit

theorem infoRef9 : (Try.prog.info? 41).map (fun i => (i.zero, i.size, i.bytes)) = some (some (.agg #[.int .i64 0, .int .i64 0]), 2, 16) := by kernel_rfl
/-- The cells of pages and counts. -/
def cellsC (C : Int → Nat) (L : List Int) : List Value := L.flatMap fun q => [.int .i64 q, .int .i64 (C q : Int)]
theorem cellsC_snoc (C : Int → Nat) (L : List Int) (q : Int) : cellsC C (L ++ [q]) = cellsC C L ++ [.int .i64 q, .int .i64 (C q : Int)] := by simp [cellsC]

/-- What trees need: their pages, rising; how often each is led to. -/
def need9 (N : List Nd) (rs : List Int) (P : Int → Bool) : List Int := upTo 512 fun q => decide (0 < cnA N rs P q)
theorem cnM_some (C : Int → Nat) (q : Int) : (cnM C q).isSome = decide (0 < C q) := by
  unfold cnM
  by_cases h : C q = 0
  · rw [if_pos h, h]; rfl
  · rw [if_neg h, decide_eq_true (by omega)]; rfl

/-- What Refs answers. -/
def RfS (w : World) (N : List Nd) (rs : List Int) (P : Int → Bool) (e : Ending) (w' : World) : Prop :=
  ∃ v, e = .returned (.tuple #[v, .int .i64 0]) ∧ w'.ownsRow w.heap.size 41 2 v (need9 N rs P).length (cellsC (cnA N rs P) (need9 N rs P)) ∧ KeptIn (· < w.heap.size) w w'

/-- The row that Refs makes. -/
def RfJ (B : Nat) (V : World) (C : Int → Nat) (L : List Int) (v : Value) (W : World) : Prop := W.ownsRow B 41 2 v L.length (cellsC C L) ∧ KeptIn (· < B) V W
theorem RfJ.next {B : Nat} {V W w8 : World} {C : Int → Nat} {L : List Int} {q : Int} {v v' : Value} {o : Obj} (h : RfJ B V C L v W) (hB : V.heap.size = B) (hown : w8.ownsRow B 41 2 v' (L.length + 1) (cellsC C L ++ [.int .i64 q, .int .i64 (C q : Int)]))
    (hgrow : (W.alloc o).grownBy w8 v.ownBlock) : RfJ B V C (L ++ [q]) v' w8 := by
  refine ⟨?_, ?_⟩
  · rw [List.length_append, cellsC_snoc]; exact hown
  · exact (h.2.trans (((KeptIn.refl _ W).alloc (fun _ h => h) _).mono fun k hk => Nat.lt_of_lt_of_le (by rw [hB]; exact hk) h.2.size)).grown (fun k hk => by rw [hB]; exact hk) hgrow (fun g e => Nat.not_lt.2 (rowS_lt h.1 g e).1)
theorem rf_bnd (j : Nat) (h : j ≤ 1000) : j + 1 ≤ maxLen ∧ (j + 1) * 16 ≤ 140737488355328 := by
  refine ⟨?_, by omega⟩
  unfold maxLen
  omega

theorem row_weaken9 {W : World} {B B' n s : Nat} {T : TypeId} {v : Value} {xs : List Value} (h : W.ownsRow B T s v n xs) (hB : B' ≤ B) : W.ownsRow B' T s v n xs := by
  refine ⟨h.1, ?_⟩
  rcases h.2 with h1 | ⟨g, cap, cur, e, hg, r⟩
  · exact .inl h1
  · exact .inr ⟨g, cap, cur, e, Nat.le_trans hB hg, r⟩
theorem intsL_keep {w W : World} {a : Option Addr} {rs : List Int} {X : Nat → Prop} (hr : IntsL w a rs) (hk : KeptIn X w W) (hX : ∀ k, k < w.heap.size → X k) : IntsL W a rs := ⟨hr.len, fun hp => by
  obtain ⟨bk, off, e, hb, hc⟩ := hr.cells hp
  exact ⟨bk, off, e, Nat.lt_of_lt_of_le hb hk.size, fun i hi => (World.cell?_of_block (a := ⟨bk, off + i, none⟩) (hk.block bk (hX bk hb))).trans (hc i hi)⟩⟩

set_option maxRecDepth 100000 in
set_option maxHeartbeats 4000000 in
theorem rcRefs (hKO : KeysOk) {N : List Nd} (hN : N.length ≤ 511) (hfit : ∀ (i : Nat) (h : i < N.length), Fits N[i].2) (hlen : ∀ (i : Nat) (h : i < N.length), N[i].2.length ≤ 1000) {w : World} {s room cap : Nat} {D : Nat → Prop} {a : Option Addr} {rs : List Int} {G : Int → List Int} (h : IsSh w s room N D) (hr : IntsL w a rs) (hrl : rs.length ≤ 100)
    (hG : ∀ r ∈ rs, ∃ root l qs g, r = ((root : Nat) : Int) ∧ TreeG N root l qs g ∧ g.Nodup ∧ G r = ofP g) (P : Int → Bool) (hP : ∀ q, P q = true ↔ ∃ r ∈ rs, q ∈ G r) :
    Calls Try.prog 7 #[pgV s, .slice a rs.length cap] w (RfS w N rs P) := by
  obtain ⟨B, hB⟩ : ∃ B, w.heap.size = B := ⟨_, rfl⟩
  obtain ⟨W, hW⟩ : ∃ W, (w.alloc (.map #[] 0)).alloc (.cells #[pgV s, .map (some B)] 60) = W := ⟨_, rfl⟩
  have hk : KeptIn (· < w.heap.size) w W := by rw [← hW]; exact ((KeptIn.refl _ w).alloc (fun _ h => h) _).alloc (fun _ h => h) _
  have hbox : W.heap[B + 1]? = some (.cells #[pgV s, .map (some B)] 60 (0, 0)) := by
    have := heap_alloc_new (w.alloc (.map #[] 0)) (.cells #[pgV s, .map (some B)] 60)
    rw [World.size_alloc, hB, hW] at this
    exact this
  have hmp : MpAt lfV9 B 0 (fun _ => none) W := by
    have h1 := MpAt.new (V := lfV9) w
    rw [hB] at h1
    exact h1.block (by rw [← hW]; exact Lib.alloc_old _ _ _ (by simp [hB]))
  have hmm : IsMm W B 0 N (fun _ => none) := ⟨hmp, fun p z hz => by cases hz⟩
  have hDlt : ∀ k, D k → k ≠ B := fun k hk' => by have := h.lt k hk'; omega
  have hwf : ∀ r ∈ rs, (Lit.int .i64 r).wf = true := fun r hr' => by
    obtain ⟨root, l, qs, g, e, hT, _⟩ := hG r hr'
    have hrt : root ≤ N.length := by
      rcases hT with ⟨h1, _⟩ | ⟨ps, g', hS, _⟩
      · omega
      · exact (nodeOf_le hS.node).2
    rw [e]
    simp [Lit.wf, IntKind.min, IntKind.max, IntKind.signed, IntKind.bits]
    omega
  have HCK := Lib.hid (ckAll hN hfit (cap := cap) (h.old hk) hDlt hmm ⟨hr.len, fun hp => by
    obtain ⟨bk, off, e, hb, hc⟩ := hr.cells hp
    exact ⟨bk, off, e, Nat.lt_of_lt_of_le hb hk.size, fun i hi => (World.cell?_of_block (a := ⟨bk, off + i, none⟩) (hk.block bk hb)).trans (hc i hi)⟩⟩ (by omega) hG)
  have HX := Lib.hid (And.intro hk (And.intro hbox (And.intro hr (And.intro hwf (And.intro hlen (And.intro hrl (And.intro hG (And.intro hP hN))))))))
  have HW := Lib.hid (And.intro hW hB)
  have HKO := Lib.hid hKO
  obtain ⟨n, hn⟩ : ∃ n, rs.length = n := ⟨_, rfl⟩
  have HN := Lib.hid hn
  rw [hn] at HCK ⊢
  unfold mmV pgV at *
  clear hKO h hr hG hP hW hk hbox hmp hmm hDlt hwf hB hn hfit hlen hrl hN
  go_enter Try.func7, Try.ntmps7
  have hmk := @run_makeMap Try.prog
  go_upto_region 2 with fail
  clear hmk
  simp only [HW.out.2]
  rw [HW.out.1]
  have c0 : W.cell? ⟨B + 1, 0, none⟩ = some (.iface 28 (.pointer (some ⟨s, 0, none⟩))) := by simp [World.cell?, HX.out.2.1]
  have c1 : W.cell? ⟨B + 1, 1, none⟩ = some (.map (some B)) := by simp [World.cell?, HX.out.2.1]
  go_wp2_with fail
  refine HCK.out.mono ?_
  rintro e V1 ⟨rfl, c', M', h1, h2, h3, h4⟩
  obtain ⟨hkW, hbox, hr, hwf, hlen, hrl, hG, hP, hN⟩ := HX.out
  have hBW : B + 1 < W.heap.size := (Array.getElem?_eq_some_iff.1 hbox).1
  have hb1 : V1.heap[B + 1]? = some (.cells #[.iface 28 (.pointer (some ⟨s, 0, none⟩)), .map (some B)] 60 (0, 0)) := (h4.block (B + 1) ⟨hBW, by omega⟩).trans hbox
  have hkV : KeptIn (· < w.heap.size) w V1 := hkW.trans (h4.mono fun k hk => ⟨Nat.lt_of_lt_of_le hk hkW.size, by have := HW.out.2; omega⟩)
  have hMP : ∀ q, (M' q).isSome = P q := fun q => by
    rw [Bool.eq_iff_iff, hP q, h3 q]
    simp
  have hCn := rcCounts (s := s) (cap := cap) h1 (intsL_keep hr hkV fun k hk => hk) (by omega) (by have := HN.out; omega) hlen hwf
  have hPf : (fun q => (M' q).isSome) = P := funext hMP
  have HCN := Lib.hid (hCn.mono fun e w' hR => (by
    obtain ⟨y, ny, r1, r2, r3, r4⟩ := hR
    rw [hPf] at r2
    exact ⟨y, ny, r1, r2, r3, r4⟩ : ∃ y ny, e = .returned (.map (some y)) ∧ MpAt cnV y ny (cnM (cnA N rs P)) w' ∧ V1.heap.size ≤ y ∧ KeptIn (· < V1.heap.size) V1 w'))
  have HDM : Hid (∀ x, 0 < cnA N rs P x → 0 ≤ x ∧ x < 512) := Lib.hid fun x hx => by
    obtain ⟨r, hr', hq⟩ := (cnA_pos hN hG hP x).1 hx
    obtain ⟨root, l, qs, g, e, hT, _, hg⟩ := hG r hr'
    rw [hg] at hq
    obtain ⟨z, hz, e2⟩ := List.mem_map.1 hq
    have := hT.pages z hz
    have e3 : ((z : Nat) : Int) = x := e2
    omega
  have HKV := Lib.hid hkV
  rw [HN.out] at HCN
  unfold mmV pgV at HCN
  have c2 : V1.cell? ⟨B + 1, 0, none⟩ = some (.iface 28 (.pointer (some ⟨s, 0, none⟩))) := by simp [World.cell?, hb1]
  have c3 : V1.cell? ⟨B + 1, 1, none⟩ = some (.map (some B)) := by simp [World.cell?, hb1]
  clear h1 h2 h3 h4 hkW hbox hr hwf hlen hrl hG hP hN hBW hb1 hkV hMP hCn hPf HCK HX c0 c1
  go_wp2_with fail
  refine HCN.out.mono ?_
  rintro e V2 ⟨y, ny, rfl, hmp, hy, hk2⟩
  obtain ⟨C, hC⟩ : ∃ C, cnA N rs P = C := ⟨_, rfl⟩
  obtain ⟨L, hL⟩ : ∃ L, need9 N rs P = L := ⟨_, rfl⟩
  have hL2 : upTo 512 (fun q => decide (0 < C q)) = L := by rw [← hL, ← hC]; rfl
  rw [hC] at hmp HDM
  have hK := HKO.out.1 (some y) V2
  have hS := HKO.out.2 V2 y ny 512 C hmp HDM.out (by omega)
  rw [hL2] at hS
  have HK := Lib.hid hK
  have HS := Lib.hid hS
  have HM := Lib.hid (And.intro hmp (And.intro (HKV.out.go hk2) (And.intro hC (And.intro hL (show L.length ≤ 512 by rw [← hL2]; exact upTo_length _ _)))))
  obtain ⟨V3, hV3⟩ : ∃ V3, V2.alloc (.cells #[.map (some y)] 62) = V3 := ⟨_, rfl⟩
  rw [hV3] at HK HS
  clear hmp hy hk2 hC hL hL2 hK hS hV3 c2 c3 HCN HKV HDM
  go_wp2_with (go_at_call 17; refine HK.out.mono ?_; rintro e V' ⟨rfl, rfl⟩)
  go_wp2_with fail
  refine HS.out.mono ?_
  rintro e V4 ⟨v4, rfl, hrow, hk4⟩
  obtain ⟨a4, c4, rfl⟩ := row_sliceI hrow
  have hL512 : L.length ≤ 512 := HM.out.2.2.2.2
  have hints := rowIntsL hrow (by unfold maxLen; omega)
  have hk3 : KeptIn (· < V2.heap.size) V2 V4 := hk4
  obtain ⟨nL, hnL⟩ : ∃ nL, L.length = nL := ⟨_, rfl⟩
  have hnLI : (nL : Int) ≤ 512 := by omega
  have HNL := Lib.hid hnL
  rw [hnL]
  obtain ⟨B4, hB4⟩ : ∃ B4, V4.heap.size = B4 := ⟨_, rfl⟩
  have HB4 := Lib.hid hB4
  have HI := Lib.hid (And.intro hints (And.intro (HM.out.1.kept hk3 HM.out.1.lt) (And.intro (HM.out.2.1.go hk3) (And.intro HM.out.2.2.1 HM.out.2.2.2.1))))
  have HJ0 : Hid (RfJ B4 V4 C (L.take 0) (.slice none 0 0) V4) := Lib.hid ⟨World.ownsRow_nil _ _ _ _, KeptIn.refl _ V4⟩
  have HQ : Hid (∀ q ∈ L, 0 ≤ q ∧ q < 512) := Lib.hid fun q hq => by
    rw [← HM.out.2.2.2.1] at hq
    obtain ⟨h1, h2, _⟩ := mem_upTo.1 hq
    exact ⟨h1, by omega⟩
  obtain ⟨ii, hii, hz0, hz1, hz2⟩ := info_parts infoRef9
  clear hrow hk4 hk3 hints hnL hB4 HM HK HS HKO hL512
  go_wp2_with fail
  go_loopw [9, 11, 28] (fun v _ i wr => ∃ (j : Nat) (X : World) (v0 : Value), X = wr ∧ v0 = v ∧ j ≤ nL ∧ i = .int .i64 (j : Int) ∧ Hid (RfJ B4 V4 C (L.take j) v0 X)) (fun _ _ i _ => nL - (RowKit.intOf i).toNat)
  case atStart => exact ⟨0, _, _, rfl, rfl, Nat.zero_le _, rfl, HJ0⟩
  case round =>
    obtain ⟨j, X, v0, rfl, rfl, hj, rfl, HJ⟩ := hrel
    clear HJ0
    have d0 : (0 : Int) ≤ (j : Int) := by omega
    by_cases hlt : j < nL
    · have d1 : (j : Int) < (nL : Int) := by omega
      have hjl : j < L.length := by rw [HNL.out]; exact hlt
      have hkX : KeptIn (· < V4.heap.size) V4 X := HJ.out.2.mono fun k hk => by rw [← HB4.out]; exact hk
      obtain ⟨bk, off, rfl, hbk, hcl⟩ := HI.out.1.cells (by omega)
      have e1 := (World.cell?_of_block (a := ⟨bk, off + j, none⟩) (hkX.block bk hbk)).trans (hcl j hjl)
      have hq0 := HQ.out L[j] (List.getElem_mem hjl)
      have hgd : L.getD j 0 = L[j] := by rw [List.getD_eq_getElem?_getD, List.getElem?_eq_getElem hjl]; rfl
      have htk : L.take (j + 1) = L.take j ++ [L[j]] := by rw [List.take_add_one, List.getElem?_eq_getElem hjl]; rfl
      rw [hgd] at e1
      obtain ⟨q, hq⟩ : ∃ q, L[j] = q := ⟨_, rfl⟩
      rw [hq] at e1 hq0 htk
      have hwq : (Lit.int .i64 q).wf = true := by
        simp [Lit.wf, IntKind.min, IntKind.max, IntKind.signed, IntKind.bits]
        omega
      have hmX := HI.out.2.1.kept hkX HI.out.2.1.lt
      have hlk := (hmX.look cnV_inj Try.underlying62 0 (zeroCn9 X) q hwq).2
      rw [cnM_get] at hlk
      unfold cnV at hlk
      have hlen : (L.take j).length = j := by rw [List.length_take]; omega
      have hrw := HJ.out.1
      rw [hlen] at hrw
      obtain ⟨hb1, hb2⟩ := rf_bnd j (by omega)
      have HRW := Lib.hid hrw
      have HLN := Lib.hid hlen
      have HT := Lib.hid htk
      have hBX : B4 ≤ X.heap.size := by have := HJ.out.2.size; rw [HB4.out] at this; exact this
      clear hkX hcl hgd htk hq hwq hmX hlen hrw hjl hbk hq0
      go_wp2_with (first
        | (at_builtin; refine wpList_append_own _ rfl _ _ 31 rfl B4 41 ii _ 2 16 Try.underlying31 hii hz0 hz1 hz2 rfl (by decide) _ _ _ rfl (HRW.out.alloc _) ⟨X.heap.size, 0, none⟩ 1 1 [.int .i64 q, .int .i64 (C q : Int)] rfl rfl (World.news_of_block (cs := #[.int .i64 q, .int .i64 (C q : Int)]) (t := 41) (fr := (0, 0)) (heap_alloc_new X _)) (by simp [Value.oneCell']) hb1 hb2 (by rw [World.size_alloc]; exact Nat.le_succ_of_le hBX) ?_))
      intro v' w8 hown hgrow _
      have HJ2 : Hid (RfJ B4 V4 C (L.take (j + 1)) v' w8) := Lib.hid (by
        rw [HT.out]
        exact HJ.out.next HB4.out (by rw [HLN.out]; exact hown) hgrow)
      clear hown hgrow HJ hb1 hb2 e1 hlk hBX HRW
      go_wp2_with fail
      go_roundw
      case rel => exact ⟨j + 1, _, _, rfl, rfl, by omega, by go_num, HJ2⟩
      case measure => simp only [RowKit.intOf]; omega
    · have d1 : ¬ (j : Int) < (nL : Int) := by omega
      have HE : Hid (RfS w N rs P (.returned (.tuple #[v0, .int .i64 0])) X) := Lib.hid (by
        have h1 := HJ.out
        rw [List.take_of_length_le (by rw [HNL.out]; omega)] at h1
        refine ⟨v0, rfl, ?_, HI.out.2.2.1.go (h1.2.mono fun k hk => by rw [← HB4.out]; exact hk)⟩
        rw [HI.out.2.2.2.1, HI.out.2.2.2.2]
        exact row_weaken9 h1.1 (by rw [← HB4.out]; exact HI.out.2.2.1.size))
      clear HJ
      go_wp2_with fail
      go_ret2
      exact HE.out

end Go.Proofs.Ytjollbaohopmjaa
