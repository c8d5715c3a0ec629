import Derived.Test.YtkgjmejgkffbdaaGreatDoorM12
import Derived.Test.YtkgjmejgkffbdaaGreatDoorSvL
/- A store's device written to: new pages, a head. -/
set_option linter.unusedVariables false
namespace Go.Proofs.YtkgjmejgkffbdaaGreatDoor
open Go.RowKit

section
variable {A : Ad} {N : Nat} {p : Pw} {S : List (List UInt8)} {M : Int → Option (List UInt8)} {h : Hd} {a : Nat} {P : List Pag} {W : World}
theorem svWrite (k : Sv A N p S M h a P W) (x : Int) (l : List UInt8) (n : Nat) (hl : l.length ≤ maxLen) (hn : l.length = 16 * n) (hf : fits S.length x n = true) (hN : N + n < maxLen) :
    Calls Tryz.prog 37 #[.pointer (some ⟨A.d, 0, none⟩), .int .i64 x, .string ⟨l.toArray⟩] W fun e w' => e = .returned (.int .i64 (if (Pw.go n p).1 = n then 0 else 4)) ∧ Sv A (N + n) (Pw.go n p).2 S (putN M x l (Pw.go n p).1) h a P w' ∧ Fr A W w' := by
  refine (dWrite A.d A.m A.s A.b N p S M x l n W k.isD k.isP hl hn hf hN).mono ?_
  rintro e w' ⟨rfl, h1, h2, h3⟩
  exact ⟨rfl, k.dev h1 h2 rfl (h3.mono fun k hk => ⟨hk.1, hk.2.1, hk.2.2.2⟩)⟩
theorem svFlushOn (k : Sv A N p S M h a P W) (hc : p.can = true) :
    Calls Tryz.prog 39 #[.pointer (some ⟨A.d, 0, none⟩)] W fun e w' => e = .returned (.int .i64 0) ∧ Sv A 0 p.use (flushed S M) (fun _ => none) h a P w' ∧ Fr A W w' := by
  refine (dFlushOn A.d A.m A.s A.b N p S M W k.isD k.isP hc).mono ?_
  rintro e w' ⟨rfl, h1, h2, h3⟩
  exact ⟨rfl, k.dev h1 h2 (flushed_len S M) (h3.mono fun k hk => ⟨hk.1, hk.2.1, hk.2.2.1, hk.2.2.2⟩)⟩
theorem svFlushOff (k : Sv A N p S M h a P W) (hc : p.can = false) :
    Calls Tryz.prog 39 #[.pointer (some ⟨A.d, 0, none⟩)] W fun e w' => e = .returned (.int .i64 4) ∧ Sv A N p.use S M h a P w' ∧ Fr A W w' := by
  refine (dFlushOff A.d A.m A.s A.b N p S M W k.isD k.isP hc).mono ?_
  rintro e w' ⟨rfl, h1, h2⟩
  obtain ⟨n1, n2, n3⟩ := k.isP.1.ne k.isD
  exact ⟨rfl, k.dev (k.isD.kept h2 n1.symm n2.symm n3.symm) h1 rfl (h2.mono fun k hk => hk.2.1)⟩
end

/-- What Flush does. -/
def flE (p : Pw) : Int := if p.can then 0 else 4
theorem svFlush {A : Ad} {N : Nat} {p : Pw} {S : List (List UInt8)} {M : Int → Option (List UInt8)} {h : Hd} {a : Nat} {P : List Pag} {W : World} (k : Sv A N p S M h a P W) :
    Calls Tryz.prog 39 #[.pointer (some ⟨A.d, 0, none⟩)] W fun e w' => e = .returned (.int .i64 (flE p)) ∧ (∃ N' S' M', (p.can = true → N' = 0 ∧ S' = flushed S M ∧ M' = fun _ => none) ∧ (p.can = false → N' = N ∧ S' = S ∧ M' = M) ∧ Sv A N' p.use S' M' h a P w') ∧ Fr A W w' := by
  unfold flE
  cases hc : p.can with
  | true =>
    refine (svFlushOn k hc).mono ?_
    rintro e w' ⟨rfl, h1, h2⟩
    exact ⟨rfl, ⟨_, _, _, fun _ => ⟨rfl, rfl, rfl⟩, (fun h => by cases h), h1⟩, h2⟩
  | false =>
    refine (svFlushOff k hc).mono ?_
    rintro e w' ⟨rfl, h1, h2⟩
    exact ⟨rfl, ⟨_, _, _, (fun h => by cases h), fun _ => ⟨rfl, rfl, rfl⟩, h1⟩, h2⟩

/-- Sector x lies in a new page among these. -/
def inNewI (P : List Pag) (l : List Int) (x : Nat) : Prop := ∃ q : Nat, (q : Int) ∈ l ∧ stOf P q = 1 ∧ 16 * q ≤ x ∧ x < 16 * q + 16

/-- What writeNew leaves. -/
def OutN (P : List Pag) (l : List Int) (S S' : List (List UInt8)) (M' : Int → Option (List UInt8)) (e : Int) : Prop :=
  (e = 0 ∧ (M' = fun _ => none) ∧ (∀ x, x < S.length → ¬ inNewI P l x → S'.getD x [] = S.getD x []) ∧ (∀ q : Nat, (q : Int) ∈ l → stOf P q = 1 → ∀ i, i < 16 → S'.getD (16 * q + i) [] = nth (txOf P q) i)) ∨
  (e = 4 ∧ S' = S ∧ ∀ x : Nat, ¬ inNewI P l x → M' (x : Int) = none)
def NewS (A : Ad) (w : World) (p : Pw) (S : List (List UInt8)) (h : Hd) (a : Nat) (P : List Pag) (l : List Int) (e : Ending) (w' : World) : Prop :=
  ∃ (e' : Int) (N' : Nat) (p' : Pw) (S' : List (List UInt8)) (M' : Int → Option (List UInt8)), e = .returned (.int .i64 e') ∧ Sv A N' p' S' M' h a P w' ∧ Fr A w w' ∧ (e' = 0 → N' = 0) ∧ S'.length = S.length ∧ OutN P l S S' M' e' ∧ (p.sure → e' = 0 ∧ p'.sure)

/-- The pages that are written: each is one of these. -/
structure Rs (n : Nat) (P : List Pag) (l r : List Int) : Prop where
  mem : ∀ x, x ∈ r ↔ x ∈ l
  len : r.length ≤ l.length
  ok : ∀ x ∈ r, ∃ q : Nat, x = (q : Int) ∧ 1 ≤ q ∧ q < n

/-- Between two rounds of writeNew. -/
structure Rw (A : Ad) (w : World) (p : Pw) (S : List (List UInt8)) (h : Hd) (a : Nat) (P : List Pag) (r : List Int) (g : Option Addr) (j : Nat) (W : World) : Prop where
  ex : ∃ Nj pj Mj, Nj ≤ 16 * j ∧ wNew P ((r.map Int.toNat).drop j) Mj pj = wNew P (r.map Int.toNat) (fun _ => none) p ∧ Sv A Nj pj S Mj h a P W
  fr : Fr A w W
  row : IntsIn A W g r

theorem new_step (P : List Pag) (r : List Int) (j : Nat) (hj : j < r.length) (q : Nat) (hq : r.getD j 0 = (q : Int)) : (r.map Int.toNat).drop j = q :: (r.map Int.toNat).drop (j + 1) := by
  have h1 : j < (r.map Int.toNat).length := by simpa using hj
  rw [List.drop_eq_getElem_cons h1]
  congr 1
  rw [List.getD_eq_getElem?_getD, List.getElem?_eq_getElem hj] at hq
  simp only [Option.getD_some] at hq
  simp [hq]

theorem out_done {n : Nat} {P : List Pag} {l r : List Int} {S : List (List UInt8)} {M : Int → Option (List UInt8)} {p p' : Pw} (hr : Rs n P l r) (hn : 16 * n ≤ S.length) (h : wNew P (r.map Int.toNat) (fun _ => none) p = (true, M, p')) :
    OutN P l S (flushed S M) (fun _ => none) 0 := by
  have hmem : ∀ q : Nat, q ∈ r.map Int.toNat ↔ (q : Int) ∈ l := fun q => by
    rw [List.mem_map]
    constructor
    · rintro ⟨x, hx, rfl⟩
      obtain ⟨q, rfl, _⟩ := hr.ok x hx
      exact (hr.mem _).1 (by simpa using hx)
    · intro hq
      exact ⟨(q : Int), (hr.mem _).2 hq, by simp⟩
  refine .inl ⟨rfl, rfl, fun x hx hnot => ?_, fun q hq hs i hi => ?_⟩
  · rw [flushed_get x hx]
    have h1 := wNew_other P (r.map Int.toNat) (fun _ => none) p (x : Int) fun q hq hs hc => hnot ⟨q, (hmem q).1 hq, hs, by omega, by omega⟩
    rw [h] at h1
    exact now_not x h1
  · have h1 := wNew_put P q hs i hi (r.map Int.toNat) (fun _ => none) p ((hmem q).2 hq) (by rw [h])
    rw [h] at h1
    obtain ⟨q', e, _, hqn⟩ := hr.ok _ ((hr.mem _).2 hq)
    rw [flushed_get _ (by omega)]
    exact now_of _ _ h1
theorem out_lost {n : Nat} {P : List Pag} {l r : List Int} {S : List (List UInt8)} {M : Int → Option (List UInt8)} {p : Pw} (hr : Rs n P l r) (h : (wNew P (r.map Int.toNat) (fun _ => none) p).2.1 = M) :
    OutN P l S S M 4 := by
  refine .inr ⟨rfl, rfl, fun x hnot => ?_⟩
  rw [← h]
  refine wNew_other P (r.map Int.toNat) (fun _ => none) p (x : Int) fun q hq hs hc => hnot ⟨q, ?_, hs, by omega, by omega⟩
  obtain ⟨y, hy, rfl⟩ := List.mem_map.1 hq
  obtain ⟨q, rfl, _⟩ := hr.ok y hy
  exact (hr.mem _).1 (by simpa using hy)

set_option maxRecDepth 100000 in
set_option maxHeartbeats 4000000 in
theorem stNew {A : Ad} {p : Pw} {S : List (List UInt8)} {h : Hd} {a : Nat} {P : List Pag} {w : World} (k : Sv A 0 p S (fun _ => none) h a P w) (a' : Option Addr) (cap : Nat) (l : List Int) (hi : IntsIn A w a' l) (hl : l.length ≤ 100000) (hu : l.all (usedB P) = true) :
    Calls Tryz.prog 47 #[.pointer (some ⟨A.st, 0, none⟩), .slice a' l.length cap] w (NewS A w p S h a P l) := by
  have hpl := k.plen
  have hAlt := k.lts
  obtain ⟨n, hn⟩ : ∃ n, P.length = n := ⟨_, rfl⟩
  rw [hn] at hpl
  have hok : ∀ x ∈ l, ∃ q : Nat, x = (q : Int) ∧ 1 ≤ q ∧ q < n := fun x hx => by
    have h1 := List.all_eq_true.1 hu x hx
    unfold usedB holdsB at h1
    simp only [Bool.and_eq_true, decide_eq_true_eq] at h1
    exact ⟨x.toNat, by omega, by omega, by omega⟩
  -- the numbers, rising
  obtain ⟨W0, hW0⟩ : ∃ W0, w.alloc (.cells #[.slice a' l.length cap] 40) = W0 := ⟨_, rfl⟩
  have hk0 : KeptIn (· < w.heap.size) w W0 := by rw [← hW0]; exact (KeptIn.refl _ w).alloc (fun _ h => h) _
  have hbx : W0.heap[w.heap.size]? = some (.cells #[.slice a' l.length cap] 40 (0, 0)) := by rw [← hW0]; exact heap_alloc_new w _
  have hsz0 : W0.heap.size = w.heap.size + 1 := by rw [← hW0]; simp
  have CV := iValues a' l.length cap w
  rw [hW0] at CV
  have hP0 : IsLz W0.heap.size W0 a' l := fun hp => by
    obtain ⟨b, off, e, hlt, _, hc⟩ := (hi.old hk0).cells hp
    exact ⟨b, off, e, hlt, hc⟩
  have CS := iSorted w.heap.size cap a' l (by omega) W0 (by omega) (by simp [World.cell?, hbx]) hP0
  have hr0 : ∀ r, (∀ x, x ∈ r ↔ x ∈ l) → r.length ≤ l.length → Rs n P l r := fun r h1 h2 => ⟨h1, h2, fun x hx => hok x ((h1 x).1 hx)⟩
  have hgo : ∀ W2 g r, KeptIn (· < W0.heap.size) W0 W2 → (∀ x, x ∈ r ↔ x ∈ l) → r.length ≤ l.length → (0 < r.length → ∃ b, g = some ⟨b, 0, none⟩ ∧ W0.heap.size ≤ b ∧ b < W2.heap.size ∧ ∀ i, i < r.length → W2.cell? ⟨b, 0 + i, none⟩ = some (.int .i64 (r.getD i 0))) →
      Rw A w p S h a P r g 0 W2 := fun W2 g r hk2 h1 h2 h3 => by
    have hk : KeptIn (· < w.heap.size) w W2 := hk0.trans (hk2.mono fun k hk => Nat.lt_of_lt_of_le hk hk0.size)
    refine ⟨⟨0, p, fun _ => none, Nat.le_refl _, by rw [List.drop_zero], k.old hk⟩, Fr.of_old hk, by unfold maxLen; omega, fun x hx => ?_, fun hp => ?_⟩
    · obtain ⟨q, rfl, _, hq⟩ := hok x ((h1 x).1 hx)
      constructor <;> omega
    · obtain ⟨b, e, hb0, hb1, hc⟩ := h3 hp
      exact ⟨b, 0, e, hb1, fun hA => by have := hAlt b hA; have := hk0.size; omega, hc⟩
  have HGO := Lib.hid hgo
  have HR0 := Lib.hid hr0
  have HPL := Lib.hid hpl
  have HLL := Lib.hid hl
  have HN := Lib.hid hn
  have HCV := Lib.hid CV
  have HCS := Lib.hid CS
  have hsl : ∀ zs : List Int, zs = l.mergeSort (fun x y => decide (x ≤ y)) → zs.length = l.length ∧ ∀ x, x ∈ zs ↔ x ∈ l := fun zs e => by
    subst e
    exact ⟨List.length_mergeSort _, fun x => List.mem_mergeSort⟩
  have HSL := Lib.hid hsl
  have hm : l.length ≤ 1000000 := by omega
  have HM := Lib.hid hm
  obtain ⟨B0, hB0⟩ : ∃ B0, W0.heap.size = B0 := ⟨_, rfl⟩
  clear hpl hok hk0 hbx hsz0 CV hP0 CS hr0 hgo hl hn hsl hm hi hu k hAlt hW0
  go_enter Tryz.func47, Tryz.ntmps47
  go_wp2_with (go_at_call 81; refine HCV.out.mono ?_)
  rintro e W1 ⟨rfl, rfl⟩
  go_wp2_with (go_at_call 80; refine HCS.out.mono ?_)
  rintro e W2 hR
  unfold SortedI at hR
  obtain ⟨v, rfl, hrow, hb⟩ := hR
  obtain ⟨zs, hzs⟩ : ∃ zs, l.mergeSort (fun x y => decide (x ≤ y)) = zs := ⟨_, rfl⟩
  rw [hzs] at hrow
  obtain ⟨hz1, hz2⟩ := HSL.out zs hzs.symm
  rw [← hz1] at hrow
  obtain ⟨g0, n0, cap0, rfl, CC⟩ := iCompact W1.heap.size v zs W2 (by rw [hz1]; exact HM.out) hrow
  have HCC := Lib.hid CC
  have HZ := Lib.hid (And.intro hz1 hz2)
  have HKB : Hid (KeptIn (· < W1.heap.size) W1 W2) := Lib.hid (KeptIn.of_below hb fun _ h => h)
  clear hrow hb hzs CC hz1 hz2 HCS HCV HSL hB0
  go_wp2_with (go_at_call 79; refine HCC.out.mono ?_)
  rintro e W3 hR
  unfold CompactI at hR
  obtain ⟨g, cap1, r, rfl, hm, hlen, hc, hk3⟩ := hR
  have hmem : ∀ x, x ∈ r ↔ x ∈ l := fun x => (hm x).trans (HZ.out.2 x)
  have hrl : r.length ≤ l.length := by rw [← HZ.out.1]; exact hlen
  have HW := Lib.hid (HGO.out W3 g r (HKB.out.trans hk3) hmem hrl hc)
  have HRS := Lib.hid (HR0.out r hmem hrl)
  obtain ⟨rl, hrl2⟩ : ∃ rl, r.length = rl := ⟨_, rfl⟩
  have hrm : rl ≤ 100000 := by have := HLL.out; omega
  have HRL := Lib.hid hrl2
  rw [hrl2]
  clear hm hlen hc hk3 hmem hrl HKB HZ HCC HGO HR0 hrl2
  go_wp2_with fail
  go_loopw [7, 8, 15] (fun _ _ c wr => ∃ (j : Nat) (W' : World), W' = wr ∧ j ≤ rl ∧ c = .int .i64 j ∧ Hid (Rw A w p S h a P r g j W')) (fun _ _ c _ => rl - (RowKit.intOf c).toNat)
  case atStart => exact ⟨0, _, rfl, Nat.zero_le _, rfl, HW⟩
  case round =>
    obtain ⟨j, W', rfl, hj, rfl, HJ⟩ := hrel
    clear HW
    have b0 : (0 : Int) ≤ (j : Int) := by omega
    obtain ⟨Nj, pj, Mj, hNj, hw, ks⟩ := HJ.out.ex
    have hfr := HJ.out.fr
    have hrw := HJ.out.row
    have c0 := ks.isS.c0
    have c7 := ks.isS.c7
    rw [HN.out] at c7
    by_cases hlt : j < rl
    · have b1 : (j : Int) < (rl : Int) := by omega
      have hjr : j < r.length := by rw [HRL.out]; exact hlt
      obtain ⟨b, off, rfl, hb, _, hc⟩ := hrw.cells (by omega)
      have e1 := hc j hjr
      obtain ⟨x, hx⟩ : ∃ x, r.getD j 0 = x := ⟨_, rfl⟩
      have hxr : x ∈ r := by
        rw [← hx, List.getD_eq_getElem?_getD, List.getElem?_eq_getElem hjr]
        exact List.getElem_mem hjr
      obtain ⟨q, rfl, hq1, hqn⟩ := HRS.out.ok x hxr
      rw [hx] at e1
      have hstep := new_step P r j hjr q hx
      rw [hstep, wNew] at hw
      obtain ⟨e2, e3⟩ := ks.isS.at q (by rw [HN.out]; exact hqn)
      have hst := ks.sts q
      have htx := ks.txs q
      have b2 : (0 : Int) ≤ (q : Int) := by omega
      have b3 : (q : Int) < (n : Int) := by omega
      obtain ⟨sq, hsq⟩ : ∃ sq, stOf P q = sq := ⟨_, rfl⟩
      obtain ⟨tq, htq⟩ : ∃ tq, txOf P q = tq := ⟨_, rfl⟩
      rw [hsq] at hw e2 hst htx
      rw [htq] at hw e3 htx
      by_cases hs1 : sq = 1
      · subst hs1
        have htl := htx rfl
        obtain ⟨tt, htt⟩ : ∃ tt, 16 * q = tt := ⟨_, rfl⟩
        have b4 : wrap64 ((q : Int) * 16) = (tt : Int) := by have := HPL.out; unfold wrap64; omega
        have b4' : IntKind.i64.wrap ((q : Int) * 16) = (tt : Int) := by have := HPL.out; rw [IntKind.wrap_i64]; omega
        rw [htt] at hw
        have hsl : 16 * n ≤ S.length := HPL.out.2.1
        have CW : ∀ V, KeptIn (· < W'.heap.size) W' V → Calls Tryz.prog 37 #[.pointer (some ⟨A.d, 0, none⟩), .int .i64 (tt : Int), .string ⟨tq.toArray⟩] V fun e V' => e = .returned (.int .i64 (if (Pw.go 16 pj).1 = 16 then 0 else 4)) ∧ Sv A (Nj + 16) (Pw.go 16 pj).2 S (putN Mj (tt : Int) tq (Pw.go 16 pj).1) h a P V' ∧ Fr A V V' := fun V hV =>
          svWrite (ks.old hV) (tt : Int) tq 16 (by rw [htl]; unfold maxLen; omega) htl (by simp only [fits, Bool.and_eq_true, decide_eq_true_eq]; omega) (by unfold maxLen; omega)
        by_cases hgo : (Pw.go 16 pj).1 = 16
        · rw [if_pos rfl, if_pos hgo] at hw
          simp only [if_pos hgo] at CW
          rw [hgo] at CW
          have HCW := Lib.hid CW
          have HST : Hid (∀ V W4, KeptIn (· < W'.heap.size) W' V → Sv A (Nj + 16) (Pw.go 16 pj).2 S (putN Mj (tt : Int) tq 16) h a P W4 → Fr A V W4 → Rw A w p S h a P r (some ⟨b, off, none⟩) (j + 1) W4) := Lib.hid fun V W4 hV k4 f4 =>
            ⟨⟨_, _, _, by omega, hw, k4⟩, (hfr.trans' (Fr.of_old hV)).trans' f4, (hrw.old hV).fr f4⟩
          clear CW hw hstep hc hx hxr hsq htq hst htx htl hrw hfr HJ ks hjr hgo hNj hb hq1 htt
          go_wp2_with fail
          go_region_law (first | (go_simp; go_at_call 37; refine (HCW.out _ ((KeptIn.refl _ _).drew)).mono ?_; rintro e W4 ⟨rfl, k4, f4⟩))
          all_goals
            have HK4 := Lib.hid (HST.out _ W4 ((KeptIn.refl _ _).drew) k4 f4)
            clear k4 f4 c0 c7 e1 e2 e3
            go_wp2_with fail
            go_roundw
            case rel => exact ⟨j + 1, _, rfl, by omega, by go_num, HK4⟩
            case measure => simp [RowKit.intOf]; omega
        · rw [if_pos rfl, if_neg hgo] at hw
          simp only [if_neg hgo] at CW
          have HCW := Lib.hid CW
          have hnsure : ¬ p.sure := fun hs => by
            have := wNew_sure P (r.map Int.toNat) (fun _ => none) p hs
            rw [← hw] at this
            cases this.1
          have HST : Hid (∀ V W4, KeptIn (· < W'.heap.size) W' V → Sv A (Nj + 16) (Pw.go 16 pj).2 S (putN Mj (tt : Int) tq (Pw.go 16 pj).1) h a P W4 → Fr A V W4 → NewS A w p S h a P l (.returned (.int .i64 4)) W4) := Lib.hid fun V W4 hV k4 f4 =>
            ⟨4, _, _, _, _, rfl, k4, (hfr.trans' (Fr.of_old hV)).trans' f4, (fun h => by cases h), rfl, out_lost HRS.out (by rw [← hw]), fun hs => absurd hs hnsure⟩
          clear CW hw hstep hc hx hxr hsq htq hst htx htl hrw hfr HJ ks hjr hgo hNj hb hq1 hnsure htt
          go_wp2_with fail
          go_region_law (first | (go_simp; go_at_call 37; refine (HCW.out _ ((KeptIn.refl _ _).drew)).mono ?_; rintro e W4 ⟨rfl, k4, f4⟩))
          all_goals
            have HK4 := Lib.hid (HST.out _ W4 ((KeptIn.refl _ _).drew) k4 f4)
            clear k4 f4 c0 c7 e1 e2 e3
            go_wp2_with fail
            go_ret
            exact HK4.out
      · rw [if_neg hs1] at hw
        have b4 : ¬ (sq : Int) = 1 := by omega
        have HK4 := Lib.hid (show Rw A w p S h a P r (some ⟨b, off, none⟩) (j + 1) W' from ⟨⟨Nj, pj, Mj, by omega, hw, ks⟩, hfr, hrw⟩)
        clear hw hstep hc hx hxr hsq htq hst htx hrw hfr HJ ks hjr hNj hb hq1 hs1
        go_wp2_with fail
        go_roundw
        case rel => exact ⟨j + 1, _, rfl, by omega, by go_num, HK4⟩
        case measure => simp [RowKit.intOf]; omega
    · obtain rfl : j = rl := by omega
      have b1 : (j : Int) ≤ (j : Int) := Int.le_refl _
      have hdr : (r.map Int.toNat).drop j = [] := List.drop_eq_nil_of_le (by rw [List.length_map, HRL.out]; exact Nat.le_refl _)
      rw [hdr, wNew] at hw
      have CF := Lib.hid (svFlush ks)
      have hlen : 16 * n ≤ S.length := HPL.out.2.1
      have hfin : ∀ W4, (∃ N' S' M', (pj.can = true → N' = 0 ∧ S' = flushed S Mj ∧ M' = fun _ => none) ∧ (pj.can = false → N' = Nj ∧ S' = S ∧ M' = Mj) ∧ Sv A N' pj.use S' M' h a P W4) → Fr A W' W4 → NewS A w p S h a P l (.returned (.int .i64 (flE pj))) W4 := by
        rintro W4 ⟨N', S', M', q1, q2, k4⟩ f4
        cases hcan : pj.can with
        | true =>
          obtain ⟨rfl, rfl, rfl⟩ := q1 hcan
          refine ⟨flE pj, _, _, _, _, rfl, k4, hfr.trans' f4, fun _ => rfl, flushed_len _ _, ?_, fun hs => ?_⟩
          · rw [flE, hcan]
            exact out_done HRS.out hlen hw.symm
          · have := wNew_sure P (r.map Int.toNat) (fun _ => none) p hs
            rw [← hw] at this
            exact ⟨by rw [flE, hcan]; rfl, this.2.use⟩
        | false =>
          obtain ⟨rfl, rfl, rfl⟩ := q2 hcan
          refine ⟨flE pj, _, _, _, _, rfl, k4, hfr.trans' f4, (fun h => by rw [flE, hcan] at h; cases h), rfl, ?_, fun hs => ?_⟩
          · rw [flE, hcan]
            exact out_lost HRS.out (by rw [← hw])
          · have := wNew_sure P (r.map Int.toNat) (fun _ => none) p hs
            rw [← hw] at this
            have := this.2.can
            rw [hcan] at this
            cases this
      have HFIN := Lib.hid hfin
      clear hfin hw hdr hfr hrw ks HJ hNj c7
      go_wp2_with (go_at_call 39; refine CF.out.mono ?_)
      rintro e W4 ⟨rfl, h4, f4⟩
      have HK4 := Lib.hid (HFIN.out W4 h4 f4)
      clear h4 f4 c0
      obtain ⟨o, ho⟩ : ∃ o, flE pj = o := ⟨_, rfl⟩
      rw [ho] at HK4 ⊢
      clear ho HFIN CF
      go_wp2_with fail
      go_ret
      exact HK4.out

end Go.Proofs.YtkgjmejgkffbdaaGreatDoor
