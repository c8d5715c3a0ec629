import Derived.Test.YtdbohcdjamhdjaaV8
import Derived.WalkKit
import Derived.OwnWalkIn
import Derived.TacticsInMore
import Derived.CallsIn
import Derived.Lib.SlKeysI
import Derived.Test.YtdbohcdjamhdjaaV9
/- Reach: the keys of a map by integers, sorted: the mathematics. -/
set_option linter.unusedVariables false
namespace Go.Proofs.Ytdbohcdjamhdjaa
open Go.RowKit Go.Maps Go.Sort

/-- The numbers below n that P tells, rising. -/
def upTo (n : Nat) (P : Int → Bool) : List Int := ((List.range n).filter fun i : Nat => P (i : Int)).map Int.ofNat
theorem mem_upTo {n : Nat} {P : Int → Bool} {q : Int} : q ∈ upTo n P ↔ 0 ≤ q ∧ q < n ∧ P q = true := by
  unfold upTo
  simp only [List.mem_map, List.mem_filter, List.mem_range, Int.ofNat_eq_natCast]
  constructor
  · rintro ⟨i, ⟨h1, h2⟩, rfl⟩
    exact ⟨by omega, by omega, h2⟩
  · rintro ⟨h1, h2, h3⟩
    exact ⟨q.toNat, ⟨by omega, by rw [show ((q.toNat : Nat) : Int) = q by omega]; exact h3⟩, by omega⟩
theorem upTo_sorted (n : Nat) (P : Int → Bool) : (upTo n P).Pairwise (· < ·) := by
  refine List.pairwise_map.2 ((List.Pairwise.sublist List.filter_sublist List.pairwise_lt_range).imp fun {a b} h => ?_)
  simp only [Int.ofNat_eq_natCast]; omega
theorem upTo_length (n : Nat) (P : Int → Bool) : (upTo n P).length ≤ n := by
  have := List.length_filter_le (fun i : Nat => P (i : Int)) (List.range n)
  simp only [upTo, List.length_map]
  rwa [List.length_range] at this
theorem sorted_eq9 {a b : List Int} (ha : a.Pairwise (· ≤ ·)) (hb : b.Pairwise (· ≤ ·)) (na : a.Nodup) (nb : b.Nodup) (h : ∀ x, x ∈ a ↔ x ∈ b) : a = b :=
  List.Perm.eq_of_pairwise (fun x y _ _ h1 h2 => Int.le_antisymm h1 h2) ha hb ((List.perm_ext_iff_of_nodup na nb).2 h)
theorem mem_intKeys9 {H : Type} {D : DataW H} (h : Canon D) (x : Int) (hk : ∀ es, D = .map es → ∀ p ∈ es, ∃ y, p.1 = .int .i64 y) : x ∈ intKeys D ↔ Maps.has D (.int .i64 x) = true := by
  obtain ⟨es, rfl, hs, _⟩ := h
  rw [has_eq, List.any_eq_true]
  show x ∈ es.map (fun p => Go.intOf p.1) ↔ _
  rw [List.mem_map]
  constructor
  · rintro ⟨p, hp, rfl⟩
    obtain ⟨y, hy⟩ := hk es rfl p hp
    exact ⟨p, hp, by rw [hy]; simp [Go.intOf, Lit.sameKey]⟩
  · rintro ⟨p, hp, he⟩
    obtain ⟨y, hy⟩ := hk es rfl p hp
    refine ⟨p, hp, ?_⟩
    rw [hy] at he ⊢
    simpa [Lit.sameKey, Go.intOf] using he
/-- The keys that came, sorted. -/
theorem keys_upTo {α : Type} {V : α → Value} {b N n : Nat} {D : DataW α} {M : Int → Option α} {w : World} (hown : w.ownsMap Try.prog 3 (mpR V) b N D) (hs : MpSays D M) (hd : ∀ x l, M x = some l → 0 ≤ x ∧ x < n) (ss : List Int) (hp : ss.Perm (intKeys D)) :
    ss.mergeSort (fun x y => decide (x ≤ y)) = upTo n fun q => (M q).isSome := by
  have hk : ∀ es, D = .map es → ∀ p ∈ es, ∃ y, p.1 = .int .i64 y := by
    obtain ⟨es, clock, hb, F, _, hD⟩ := hown
    intro es' he p hp
    rw [hD] at he
    cases he
    obtain ⟨x, hx, rfl⟩ := List.mem_map.1 (mem_sorted.1 hp)
    obtain ⟨y, hy⟩ := F.reads x hx
    obtain ⟨z, _, hz, _⟩ := Maps.keyOf_i64 Try.underlying3 (WideElems.rd_key hy)
    exact ⟨z, by rw [WideElems.rg_of hy]; exact hz⟩
  have hc := hown.canon mpLaw
  have hnd : (intKeys D).Nodup := by
    obtain ⟨es, rfl, hpw, _⟩ := hc
    show (es.map fun p => Go.intOf p.1).Nodup
    refine List.pairwise_map.2 ((apart_of_rising hpw).imp_of_mem fun {p q} hp' hq' hne e => hne ?_)
    obtain ⟨a, ha⟩ := hk es rfl p hp'
    obtain ⟨c, hc⟩ := hk es rfl q hq'
    rw [ha, hc] at e ⊢
    exact congrArg _ e
  have tr : ∀ a b c : Int, decide (a ≤ b) = true → decide (b ≤ c) = true → decide (a ≤ c) = true := fun a b c h1 h2 => by simp only [decide_eq_true_eq] at *; omega
  have tot : ∀ a b : Int, (decide (a ≤ b) || decide (b ≤ a)) = true := fun a b => by simp only [Bool.or_eq_true, decide_eq_true_eq]; omega
  refine sorted_eq9 ((List.pairwise_mergeSort tr tot ss).imp fun h => by simpa using h) ((upTo_sorted _ _).imp fun h => Int.le_of_lt h) ((List.mergeSort_perm ss _).nodup_iff.2 (hp.nodup_iff.2 hnd)) ((upTo_sorted _ _).imp fun {a b} h e => by omega) fun x => ?_
  rw [(List.mergeSort_perm ss _).mem_iff, hp.mem_iff, mem_intKeys9 hc x hk, hs.has, mem_upTo]
  constructor
  · intro h
    obtain ⟨l, hl⟩ := Option.isSome_iff_exists.1 h
    obtain ⟨h0, h1⟩ := hd x l hl
    exact ⟨h0, h1, h⟩
  · exact fun h => h.2.2

/-- slices.Sorted(maps.Keys(m)) of a map of counts. -/
def KeysOk : Prop :=
  (∀ (mb : Option Nat) (W : World), Calls Try.prog 26 #[.map mb] W fun e w' => e = .returned (.func (.func 34) #[] #[.pointer (some ⟨W.heap.size, 0, none⟩)]) ∧ w' = W.alloc (.cells #[.map mb] 68)) ∧
  (∀ (w : World) (b N n : Nat) (C : Int → Nat), MpAt cnV b N (cnM C) w → (∀ x, 0 < C x → 0 ≤ x ∧ x < n) → n ≤ 1000 →
    Calls Try.prog 25 #[.func (.func 34) #[] #[.pointer (some ⟨w.heap.size, 0, none⟩)]] (w.alloc (.cells #[.map (some b)] 68)) fun e w' => ∃ v, e = .returned v ∧
      w'.ownsRow w.heap.size 3 1 v (upTo n fun q => decide (0 < C q)).length ((upTo n fun q => decide (0 < C q)).map fun q => Value.int .i64 q) ∧ KeptIn (· < w.heap.size) w w')

end Go.Proofs.Ytdbohcdjamhdjaa
/- Package reach's Refs over sound trees. -/
set_option linter.unusedVariables false
namespace Go.Proofs.Ytdbohcdjamhdjaa
open Go.RowKit

theorem infoRef9 : (Try.prog.info? 41).map (fun i => (i.zero, i.size, i.bytes)) = some (some (.agg #[.int .i64 0, .int .i64 0]), 2, 16) := by kernel_rfl
/-- The cells of pages and counts. -/
def cellsC (C : Int → Nat) (L : List Int) : List Value := L.flatMap fun q => [.int .i64 q, .int .i64 (C q : Int)]
theorem cellsC_snoc (C : Int → Nat) (L : List Int) (q : Int) : cellsC C (L ++ [q]) = cellsC C L ++ [.int .i64 q, .int .i64 (C q : Int)] := by simp [cellsC]

/-- What trees need: their pages, rising; how often each is led to. -/
def need9 (N : List Nd) (rs : List Int) (P : Int → Bool) : List Int := upTo 512 fun q => decide (0 < cnA N rs P q)
theorem cnM_some (C : Int → Nat) (q : Int) : (cnM C q).isSome = decide (0 < C q) := by
  unfold cnM
  by_cases h : C q = 0
  · rw [if_pos h, h]; rfl
  · rw [if_neg h, decide_eq_true (by omega)]; rfl

/-- What Refs answers. -/
def RfS (w : World) (N : List Nd) (rs : List Int) (P : Int → Bool) (e : Ending) (w' : World) : Prop :=
  ∃ v, e = .returned (.tuple #[v, .int .i64 0]) ∧ w'.ownsRow w.heap.size 41 2 v (need9 N rs P).length (cellsC (cnA N rs P) (need9 N rs P)) ∧ KeptIn (· < w.heap.size) w w'

/-- The row that Refs makes. -/
def RfJ (B : Nat) (V : World) (C : Int → Nat) (L : List Int) (v : Value) (W : World) : Prop := W.ownsRow B 41 2 v L.length (cellsC C L) ∧ KeptIn (· < B) V W
theorem RfJ.next {B : Nat} {V W w8 : World} {C : Int → Nat} {L : List Int} {q : Int} {v v' : Value} {o : Obj} (h : RfJ B V C L v W) (hB : V.heap.size = B) (hown : w8.ownsRow B 41 2 v' (L.length + 1) (cellsC C L ++ [.int .i64 q, .int .i64 (C q : Int)]))
    (hgrow : (W.alloc o).grownBy w8 v.ownBlock) : RfJ B V C (L ++ [q]) v' w8 := by
  refine ⟨?_, ?_⟩
  · rw [List.length_append, cellsC_snoc]; exact hown
  · exact (h.2.trans (((KeptIn.refl _ W).alloc (fun _ h => h) _).mono fun k hk => Nat.lt_of_lt_of_le (by rw [hB]; exact hk) h.2.size)).grown (fun k hk => by rw [hB]; exact hk) hgrow (fun g e => Nat.not_lt.2 (rowS_lt h.1 g e).1)
theorem rf_bnd (j : Nat) (h : j ≤ 1000) : j + 1 ≤ maxLen ∧ (j + 1) * 16 ≤ 140737488355328 := by
  refine ⟨?_, by omega⟩
  unfold maxLen
  omega

theorem row_weaken9 {W : World} {B B' n s : Nat} {T : TypeId} {v : Value} {xs : List Value} (h : W.ownsRow B T s v n xs) (hB : B' ≤ B) : W.ownsRow B' T s v n xs := by
  refine ⟨h.1, ?_⟩
  rcases h.2 with h1 | ⟨g, cap, cur, e, hg, r⟩
  · exact .inl h1
  · exact .inr ⟨g, cap, cur, e, Nat.le_trans hB hg, r⟩
theorem intsL_keep {w W : World} {a : Option Addr} {rs : List Int} {X : Nat → Prop} (hr : IntsL w a rs) (hk : KeptIn X w W) (hX : ∀ k, k < w.heap.size → X k) : IntsL W a rs := ⟨hr.len, fun hp => by
  obtain ⟨bk, off, e, hb, hc⟩ := hr.cells hp
  exact ⟨bk, off, e, Nat.lt_of_lt_of_le hb hk.size, fun i hi => (World.cell?_of_block (a := ⟨bk, off + i, none⟩) (hk.block bk (hX bk hb))).trans (hc i hi)⟩⟩

set_option maxRecDepth 100000 in
set_option maxHeartbeats 4000000 in
theorem rcRefs (hKO : KeysOk) {N : List Nd} (hN : N.length ≤ 511) (hfit : ∀ (i : Nat) (h : i < N.length), Fits N[i].2) (hlen : ∀ (i : Nat) (h : i < N.length), N[i].2.length ≤ 1000) {w : World} {s room cap : Nat} {D : Nat → Prop} {a : Option Addr} {rs : List Int} {G : Int → List Int} (h : IsSh w s room N D) (hr : IntsL w a rs) (hrl : rs.length ≤ 100)
    (hG : ∀ r ∈ rs, ∃ root l qs g, r = ((root : Nat) : Int) ∧ TreeG N root l qs g ∧ g.Nodup ∧ G r = ofP g) (P : Int → Bool) (hP : ∀ q, P q = true ↔ ∃ r ∈ rs, q ∈ G r) :
    Calls Try.prog 8 #[pgV s, .slice a rs.length cap] w (RfS w N rs P) := by
  obtain ⟨B, hB⟩ : ∃ B, w.heap.size = B := ⟨_, rfl⟩
  obtain ⟨W, hW⟩ : ∃ W, (w.alloc (.map #[] 0)).alloc (.cells #[pgV s, .map (some B)] 66) = W := ⟨_, rfl⟩
  have hk : KeptIn (· < w.heap.size) w W := by rw [← hW]; exact ((KeptIn.refl _ w).alloc (fun _ h => h) _).alloc (fun _ h => h) _
  have hbox : W.heap[B + 1]? = some (.cells #[pgV s, .map (some B)] 66 (0, 0)) := by
    have := heap_alloc_new (w.alloc (.map #[] 0)) (.cells #[pgV s, .map (some B)] 66)
    rw [World.size_alloc, hB, hW] at this
    exact this
  have hmp : MpAt lfV9 B 0 (fun _ => none) W := by
    have h1 := MpAt.new (V := lfV9) w
    rw [hB] at h1
    exact h1.block (by rw [← hW]; exact Lib.alloc_old _ _ _ (by simp [hB]))
  have hmm : IsMm W B 0 N (fun _ => none) := ⟨hmp, fun p z hz => by cases hz⟩
  have hDlt : ∀ k, D k → k ≠ B := fun k hk' => by have := h.lt k hk'; omega
  have hwf : ∀ r ∈ rs, (Lit.int .i64 r).wf = true := fun r hr' => by
    obtain ⟨root, l, qs, g, e, hT, _⟩ := hG r hr'
    have hrt : root ≤ N.length := by
      rcases hT with ⟨h1, _⟩ | ⟨ps, g', hS, _⟩
      · omega
      · exact (nodeOf_le hS.node).2
    rw [e]
    simp [Lit.wf, IntKind.min, IntKind.max, IntKind.signed, IntKind.bits]
    omega
  have HCK := Lib.hid (ckAll hN hfit (cap := cap) (h.old hk) hDlt hmm ⟨hr.len, fun hp => by
    obtain ⟨bk, off, e, hb, hc⟩ := hr.cells hp
    exact ⟨bk, off, e, Nat.lt_of_lt_of_le hb hk.size, fun i hi => (World.cell?_of_block (a := ⟨bk, off + i, none⟩) (hk.block bk hb)).trans (hc i hi)⟩⟩ (by omega) hG)
  have HX := Lib.hid (And.intro hk (And.intro hbox (And.intro hr (And.intro hwf (And.intro hlen (And.intro hrl (And.intro hG (And.intro hP hN))))))))
  have HW := Lib.hid (And.intro hW hB)
  have HKO := Lib.hid hKO
  obtain ⟨n, hn⟩ : ∃ n, rs.length = n := ⟨_, rfl⟩
  have HN := Lib.hid hn
  rw [hn] at HCK ⊢
  unfold mmV pgV at *
  clear hKO h hr hG hP hW hk hbox hmp hmm hDlt hwf hB hn hfit hlen hrl hN
  go_enter Try.func8, Try.ntmps8
  have hmk := @run_makeMap Try.prog
  go_upto_region 2 with fail
  clear hmk
  simp only [HW.out.2]
  rw [HW.out.1]
  have c0 : W.cell? ⟨B + 1, 0, none⟩ = some (.iface 28 (.pointer (some ⟨s, 0, none⟩))) := by simp [World.cell?, HX.out.2.1]
  have c1 : W.cell? ⟨B + 1, 1, none⟩ = some (.map (some B)) := by simp [World.cell?, HX.out.2.1]
  go_wp2_with fail
  refine HCK.out.mono ?_
  rintro e V1 ⟨rfl, c', M', h1, h2, h3, h4⟩
  obtain ⟨hkW, hbox, hr, hwf, hlen, hrl, hG, hP, hN⟩ := HX.out
  have hBW : B + 1 < W.heap.size := (Array.getElem?_eq_some_iff.1 hbox).1
  have hb1 : V1.heap[B + 1]? = some (.cells #[.iface 28 (.pointer (some ⟨s, 0, none⟩)), .map (some B)] 66 (0, 0)) := (h4.block (B + 1) ⟨hBW, by omega⟩).trans hbox
  have hkV : KeptIn (· < w.heap.size) w V1 := hkW.trans (h4.mono fun k hk => ⟨Nat.lt_of_lt_of_le hk hkW.size, by have := HW.out.2; omega⟩)
  have hMP : ∀ q, (M' q).isSome = P q := fun q => by
    rw [Bool.eq_iff_iff, hP q, h3 q]
    simp
  have hCn := rcCounts (s := s) (cap := cap) h1 (intsL_keep hr hkV fun k hk => hk) (by omega) (by have := HN.out; omega) hlen hwf
  have hPf : (fun q => (M' q).isSome) = P := funext hMP
  have HCN := Lib.hid (hCn.mono fun e w' hR => (by
    obtain ⟨y, ny, r1, r2, r3, r4⟩ := hR
    rw [hPf] at r2
    exact ⟨y, ny, r1, r2, r3, r4⟩ : ∃ y ny, e = .returned (.map (some y)) ∧ MpAt cnV y ny (cnM (cnA N rs P)) w' ∧ V1.heap.size ≤ y ∧ KeptIn (· < V1.heap.size) V1 w'))
  have HDM : Hid (∀ x, 0 < cnA N rs P x → 0 ≤ x ∧ x < 512) := Lib.hid fun x hx => by
    obtain ⟨r, hr', hq⟩ := (cnA_pos hN hG hP x).1 hx
    obtain ⟨root, l, qs, g, e, hT, _, hg⟩ := hG r hr'
    rw [hg] at hq
    obtain ⟨z, hz, e2⟩ := List.mem_map.1 hq
    have := hT.pages z hz
    have e3 : ((z : Nat) : Int) = x := e2
    omega
  have HKV := Lib.hid hkV
  rw [HN.out] at HCN
  unfold mmV pgV at HCN
  have c2 : V1.cell? ⟨B + 1, 0, none⟩ = some (.iface 28 (.pointer (some ⟨s, 0, none⟩))) := by simp [World.cell?, hb1]
  have c3 : V1.cell? ⟨B + 1, 1, none⟩ = some (.map (some B)) := by simp [World.cell?, hb1]
  clear h1 h2 h3 h4 hkW hbox hr hwf hlen hrl hG hP hN hBW hb1 hkV hMP hCn hPf HCK HX c0 c1
  go_wp2_with fail
  refine HCN.out.mono ?_
  rintro e V2 ⟨y, ny, rfl, hmp, hy, hk2⟩
  obtain ⟨C, hC⟩ : ∃ C, cnA N rs P = C := ⟨_, rfl⟩
  obtain ⟨L, hL⟩ : ∃ L, need9 N rs P = L := ⟨_, rfl⟩
  have hL2 : upTo 512 (fun q => decide (0 < C q)) = L := by rw [← hL, ← hC]; rfl
  rw [hC] at hmp HDM
  have hK := HKO.out.1 (some y) V2
  have hS := HKO.out.2 V2 y ny 512 C hmp HDM.out (by omega)
  rw [hL2] at hS
  have HK := Lib.hid hK
  have HS := Lib.hid hS
  have HM := Lib.hid (And.intro hmp (And.intro (HKV.out.go hk2) (And.intro hC (And.intro hL (show L.length ≤ 512 by rw [← hL2]; exact upTo_length _ _)))))
  obtain ⟨V3, hV3⟩ : ∃ V3, V2.alloc (.cells #[.map (some y)] 68) = V3 := ⟨_, rfl⟩
  rw [hV3] at HK HS
  clear hmp hy hk2 hC hL hL2 hK hS hV3 c2 c3 HCN HKV HDM
  go_wp2_with (go_at_call 26; refine HK.out.mono ?_; rintro e V' ⟨rfl, rfl⟩)
  go_wp2_with fail
  refine HS.out.mono ?_
  rintro e V4 ⟨v4, rfl, hrow, hk4⟩
  obtain ⟨a4, c4, rfl⟩ := row_sliceI hrow
  have hL512 : L.length ≤ 512 := HM.out.2.2.2.2
  have hints := rowIntsL hrow (by unfold maxLen; omega)
  have hk3 : KeptIn (· < V2.heap.size) V2 V4 := hk4
  obtain ⟨nL, hnL⟩ : ∃ nL, L.length = nL := ⟨_, rfl⟩
  have hnLI : (nL : Int) ≤ 512 := by omega
  have HNL := Lib.hid hnL
  rw [hnL]
  obtain ⟨B4, hB4⟩ : ∃ B4, V4.heap.size = B4 := ⟨_, rfl⟩
  have HB4 := Lib.hid hB4
  have HI := Lib.hid (And.intro hints (And.intro (HM.out.1.kept hk3 HM.out.1.lt) (And.intro (HM.out.2.1.go hk3) (And.intro HM.out.2.2.1 HM.out.2.2.2.1))))
  have HJ0 : Hid (RfJ B4 V4 C (L.take 0) (.slice none 0 0) V4) := Lib.hid ⟨World.ownsRow_nil _ _ _ _, KeptIn.refl _ V4⟩
  have HQ : Hid (∀ q ∈ L, 0 ≤ q ∧ q < 512) := Lib.hid fun q hq => by
    rw [← HM.out.2.2.2.1] at hq
    obtain ⟨h1, h2, _⟩ := mem_upTo.1 hq
    exact ⟨h1, by omega⟩
  obtain ⟨ii, hii, hz0, hz1, hz2⟩ := info_parts infoRef9
  clear hrow hk4 hk3 hints hnL hB4 HM HK HS HKO hL512
  go_wp2_with fail
  go_loopw [9, 11, 28] (fun v _ i wr => ∃ (j : Nat) (X : World) (v0 : Value), X = wr ∧ v0 = v ∧ j ≤ nL ∧ i = .int .i64 (j : Int) ∧ Hid (RfJ B4 V4 C (L.take j) v0 X)) (fun _ _ i _ => nL - (RowKit.intOf i).toNat)
  case atStart => exact ⟨0, _, _, rfl, rfl, Nat.zero_le _, rfl, HJ0⟩
  case round =>
    obtain ⟨j, X, v0, rfl, rfl, hj, rfl, HJ⟩ := hrel
    clear HJ0
    have d0 : (0 : Int) ≤ (j : Int) := by omega
    by_cases hlt : j < nL
    · have d1 : (j : Int) < (nL : Int) := by omega
      have hjl : j < L.length := by rw [HNL.out]; exact hlt
      have hkX : KeptIn (· < V4.heap.size) V4 X := HJ.out.2.mono fun k hk => by rw [← HB4.out]; exact hk
      obtain ⟨bk, off, rfl, hbk, hcl⟩ := HI.out.1.cells (by omega)
      have e1 := (World.cell?_of_block (a := ⟨bk, off + j, none⟩) (hkX.block bk hbk)).trans (hcl j hjl)
      have hq0 := HQ.out L[j] (List.getElem_mem hjl)
      have hgd : L.getD j 0 = L[j] := by rw [List.getD_eq_getElem?_getD, List.getElem?_eq_getElem hjl]; rfl
      have htk : L.take (j + 1) = L.take j ++ [L[j]] := by rw [List.take_add_one, List.getElem?_eq_getElem hjl]; rfl
      rw [hgd] at e1
      obtain ⟨q, hq⟩ : ∃ q, L[j] = q := ⟨_, rfl⟩
      rw [hq] at e1 hq0 htk
      have hwq : (Lit.int .i64 q).wf = true := by
        simp [Lit.wf, IntKind.min, IntKind.max, IntKind.signed, IntKind.bits]
        omega
      have hmX := HI.out.2.1.kept hkX HI.out.2.1.lt
      have hlk := (hmX.look cnV_inj Try.underlying68 0 (zeroCn9 X) q hwq).2
      rw [cnM_get] at hlk
      unfold cnV at hlk
      have hlen : (L.take j).length = j := by rw [List.length_take]; omega
      have hrw := HJ.out.1
      rw [hlen] at hrw
      obtain ⟨hb1, hb2⟩ := rf_bnd j (by omega)
      have HRW := Lib.hid hrw
      have HLN := Lib.hid hlen
      have HT := Lib.hid htk
      have hBX : B4 ≤ X.heap.size := by have := HJ.out.2.size; rw [HB4.out] at this; exact this
      clear hkX hcl hgd htk hq hwq hmX hlen hrw hjl hbk hq0
      go_wp2_with (first
        | (at_builtin; refine wpList_append_own _ rfl _ _ 31 rfl B4 41 ii _ 2 16 Try.underlying31 hii hz0 hz1 hz2 rfl (by decide) _ _ _ rfl (HRW.out.alloc _) ⟨X.heap.size, 0, none⟩ 1 1 [.int .i64 q, .int .i64 (C q : Int)] rfl rfl (World.news_of_block (cs := #[.int .i64 q, .int .i64 (C q : Int)]) (t := 41) (fr := (0, 0)) (heap_alloc_new X _)) (by simp [Value.oneCell']) hb1 hb2 (by rw [World.size_alloc]; exact Nat.le_succ_of_le hBX) ?_))
      intro v' w8 hown hgrow _
      have HJ2 : Hid (RfJ B4 V4 C (L.take (j + 1)) v' w8) := Lib.hid (by
        rw [HT.out]
        exact HJ.out.next HB4.out (by rw [HLN.out]; exact hown) hgrow)
      clear hown hgrow HJ hb1 hb2 e1 hlk hBX HRW
      go_wp2_with fail
      go_roundw
      case rel => exact ⟨j + 1, _, _, rfl, rfl, by omega, by go_num, HJ2⟩
      case measure => simp only [RowKit.intOf]; omega
    · have d1 : ¬ (j : Int) < (nL : Int) := by omega
      have HE : Hid (RfS w N rs P (.returned (.tuple #[v0, .int .i64 0])) X) := Lib.hid (by
        have h1 := HJ.out
        rw [List.take_of_length_le (by rw [HNL.out]; omega)] at h1
        refine ⟨v0, rfl, ?_, HI.out.2.2.1.go (h1.2.mono fun k hk => by rw [← HB4.out]; exact hk)⟩
        rw [HI.out.2.2.2.1, HI.out.2.2.2.2]
        exact row_weaken9 h1.1 (by rw [← HB4.out]; exact HI.out.2.2.1.size))
      clear HJ
      go_wp2_with fail
      go_ret2
      exact HE.out

end Go.Proofs.Ytdbohcdjamhdjaa
/- Package reach's Pages over sound trees. -/
set_option linter.unusedVariables false
namespace Go.Proofs.Ytdbohcdjamhdjaa
open Go.RowKit

theorem infoInt9 : (Try.prog.info? 3).map (fun i => (i.zero, i.size, i.bytes)) = some (some (.int .i64 0), 1, 8) := by kernel_rfl
theorem cellsC_at (C : Int → Nat) (L : List Int) : ∀ i (h : i < L.length), (cellsC C L)[i * 2]? = some (.int .i64 L[i]) ∧ (cellsC C L)[i * 2 + 1]? = some (.int .i64 (C L[i] : Int)) := by
  induction L with
  | nil => intro i h; cases h
  | cons q r ih =>
    intro i h
    cases i with
    | zero => exact ⟨rfl, rfl⟩
    | succ i =>
      have := ih i (by simpa using h)
      rw [show (i + 1) * 2 = i * 2 + 1 + 1 by omega]
      exact this
/-- Pages and counts in memory. -/
structure IsRf (W : World) (a : Option Addr) (C : Int → Nat) (L : List Int) : Prop where
  len : L.length ≤ maxLen
  cells : 0 < L.length → ∃ b off, a = some ⟨b, off, none⟩ ∧ b < W.heap.size ∧ ∀ i (h : i < L.length), W.cell? ⟨b, off + i * 2, none⟩ = some (.int .i64 L[i]) ∧ W.cell? ⟨b, off + i * 2 + 1, none⟩ = some (.int .i64 (C L[i] : Int))
theorem IsRf.kept {X : Nat → Prop} {W W' : World} {a : Option Addr} {C : Int → Nat} {L : List Int} (h : IsRf W a C L) (hk : KeptIn X W W') (hX : ∀ k, k < W.heap.size → X k) : IsRf W' a C L :=
  ⟨h.len, fun hp => by
    obtain ⟨b, off, e, hb, hc⟩ := h.cells hp
    have hb' := hk.block b (hX b hb)
    exact ⟨b, off, e, Nat.lt_of_lt_of_le hb hk.size, fun i hi => ⟨(World.cell?_of_block (a := ⟨b, off + i * 2, none⟩) hb').trans (hc i hi).1, (World.cell?_of_block (a := ⟨b, off + i * 2 + 1, none⟩) hb').trans (hc i hi).2⟩⟩⟩
theorem row_IsRf {W : World} {B cap : Nat} {a : Option Addr} {C : Int → Nat} {L : List Int} (h : W.ownsRow B 41 2 (.slice a L.length cap) L.length (cellsC C L)) : IsRf W a C L := by
  rcases h.2 with ⟨e, h0⟩ | ⟨g, cap', cur, e, hg, hb, hc, hm, hs, ht⟩
  · exact ⟨by rw [h0]; exact Nat.zero_le _, fun hp => by omega⟩
  · simp only [Value.slice.injEq, true_and] at e
    refine ⟨Nat.le_trans hc hm, fun _ => ⟨g, 0, e.1, (Array.getElem?_eq_some_iff.1 hb).1, fun i hi => ?_⟩⟩
    obtain ⟨h1, h2⟩ := cellsC_at C L i hi
    rw [← ht, List.getElem?_take_of_lt (by omega)] at h1 h2
    rw [Nat.zero_add, cell_of_row _ _ _ _ _ _ hb, cell_of_row _ _ _ _ _ _ hb]
    exact ⟨by simpa using h1, by simpa using h2⟩
theorem row_slice9 {W : World} {B n sz : Nat} {T : TypeId} {v : Value} {xs : List Value} (h : W.ownsRow B T sz v n xs) : ∃ a cap, v = .slice a n cap := by
  rcases h.2 with ⟨rfl, h0⟩ | ⟨g, cap, cur, rfl, _⟩
  · exact ⟨none, 0, by rw [h0]⟩
  · exact ⟨_, _, rfl⟩

/-- What Pages answers. -/
def PzS (w : World) (L : List Int) (e : Ending) (w' : World) : Prop :=
  ∃ v, e = .returned (.tuple #[v, .int .i64 0]) ∧ w'.ownsRow w.heap.size 3 1 v L.length (cellsI L) ∧ KeptIn (· < w.heap.size) w w'
def PzJ (B : Nat) (V : World) (L : List Int) (v : Value) (W : World) : Prop := W.ownsRow B 3 1 v L.length (cellsI L) ∧ KeptIn (· < B) V W
theorem PzJ.next {B : Nat} {V W w8 : World} {L : List Int} {q : Int} {v v' : Value} {o p : Obj} (h : PzJ B V L v W) (hB : V.heap.size = B) (hown : w8.ownsRow B 3 1 v' (L.length + 1) (cellsI L ++ [.int .i64 q]))
    (hgrow : ((W.alloc p).alloc o).grownBy w8 v.ownBlock) : PzJ B V (L ++ [q]) v' w8 := by
  refine ⟨?_, ?_⟩
  · rw [List.length_append, show cellsI (L ++ [q]) = cellsI L ++ [.int .i64 q] by simp [cellsI]]; exact hown
  · exact (h.2.trans ((((KeptIn.refl _ W).alloc (fun _ h => h) _).alloc (fun _ h => h) _).mono fun k hk => Nat.lt_of_lt_of_le (by rw [hB]; exact hk) h.2.size)).grown (fun k hk => by rw [hB]; exact hk) hgrow (fun g e => Nat.not_lt.2 (rowS_lt h.1 g e).1)
theorem two_new9 (V : World) (o p : Obj) : ((V.alloc o).alloc p).heap[V.heap.size + 1]? = some p := by
  have := heap_alloc_new (V.alloc o) p
  rwa [World.size_alloc] at this

set_option maxRecDepth 100000 in
set_option maxHeartbeats 4000000 in
theorem rcPages {w : World} {s n cap : Nat} {a : Option Addr} {N : List Nd} {rs : List Int} {P : Int → Bool} (h : Calls Try.prog 8 #[pgV s, .slice a n cap] w (RfS w N rs P)) :
    Calls Try.prog 9 #[pgV s, .slice a n cap] w (PzS w (need9 N rs P)) := by
  have HR := Lib.hid h
  obtain ⟨C, hC⟩ : ∃ C, cnA N rs P = C := ⟨_, rfl⟩
  obtain ⟨L, hL⟩ : ∃ L, need9 N rs P = L := ⟨_, rfl⟩
  have hL5 : L.length ≤ 512 := by rw [← hL]; exact upTo_length _ _
  have HL := Lib.hid (And.intro hC hL)
  rw [hL]
  unfold pgV at *
  clear h hC hL
  go_enter Try.func9, Try.ntmps9
  go_wp2_with fail
  refine HR.out.mono ?_
  rintro e V1 ⟨v1, rfl, hrow, hk1⟩
  rw [HL.out.1, HL.out.2] at hrow
  obtain ⟨a1, c1, rfl⟩ := row_slice9 hrow
  have H := Lib.hid (And.intro (row_IsRf hrow) hk1)
  obtain ⟨nL, hnL⟩ : ∃ nL, L.length = nL := ⟨_, rfl⟩
  have hnLI : (nL : Int) ≤ 512 := by omega
  have HNL := Lib.hid hnL
  rw [hnL]
  obtain ⟨B, hB⟩ : ∃ B, V1.heap.size = B := ⟨_, rfl⟩
  have HB := Lib.hid hB
  have HJ0 : Hid (PzJ B V1 (L.take 0) (.slice none 0 0) V1) := Lib.hid ⟨World.ownsRow_nil _ _ _ _, KeptIn.refl _ V1⟩
  obtain ⟨ii, hii, hz0, hz1, hz2⟩ := info_parts infoInt9
  clear hrow hk1 hnL hB HR HL hL5
  go_wp2_with fail
  go_loopw [8, 10, 22] (fun v _ i wr => ∃ (j : Nat) (X : World) (v0 : Value), X = wr ∧ v0 = v ∧ j ≤ nL ∧ i = .int .i64 (j : Int) ∧ Hid (PzJ B V1 (L.take j) v0 X)) (fun _ _ i _ => nL - (RowKit.intOf i).toNat)
  case atStart => exact ⟨0, _, _, rfl, rfl, Nat.zero_le _, rfl, HJ0⟩
  case round =>
    obtain ⟨j, X, v0, rfl, rfl, hj, rfl, HJ⟩ := hrel
    clear HJ0
    have d0 : (0 : Int) ≤ (j : Int) := by omega
    by_cases hlt : j < nL
    · have d1 : (j : Int) < (nL : Int) := by omega
      have hjl : j < L.length := by rw [HNL.out]; exact hlt
      have hkX : KeptIn (· < V1.heap.size) V1 X := HJ.out.2.mono fun k hk => by rw [← HB.out]; exact hk
      obtain ⟨bk, off, rfl, hbk, hcl⟩ := (H.out.1.kept hkX fun k hk => hk).cells (by omega)
      obtain ⟨e1, e2⟩ := hcl j hjl
      have htk : L.take (j + 1) = L.take j ++ [L[j]] := by rw [List.take_add_one, List.getElem?_eq_getElem hjl]; rfl
      obtain ⟨q, hq⟩ : ∃ q, L[j] = q := ⟨_, rfl⟩
      rw [hq] at e1 e2 htk
      obtain ⟨cq, hcq⟩ : ∃ cq, C q = cq := ⟨_, rfl⟩
      rw [hcq] at e2
      have hlen : (L.take j).length = j := by rw [List.length_take]; omega
      have hrw := HJ.out.1
      rw [hlen] at hrw
      obtain ⟨hb1, hb2⟩ := rf_bnd j (by omega)
      have hb3 : (j + 1) * 8 ≤ 140737488355328 := by omega
      have HRW := Lib.hid hrw
      have HLN := Lib.hid hlen
      have HT := Lib.hid htk
      have HNB := Lib.hid (two_new9 X (.cells #[.int .i64 q, .int .i64 (cq : Int)] 41) (.cells #[.int .i64 q] 3))
      have hBX : B ≤ X.heap.size := by have := HJ.out.2.size; rw [HB.out] at this; exact this
      clear hkX hcl htk hq hlen hrw hjl hbk hcq hb2
      go_wp2_with (first
        | (at_builtin; refine wpList_append_own _ rfl _ _ 23 rfl B 3 ii _ 1 8 Try.underlying23 hii hz0 hz1 hz2 rfl (by decide) _ _ _ rfl ((HRW.out.alloc _).alloc _) ⟨X.heap.size + 1, 0, none⟩ 1 1 [.int .i64 q] rfl rfl (World.news_of_block (cs := #[.int .i64 q]) (t := 3) (fr := (0, 0)) HNB.out) (by simp [Value.oneCell']) hb1 hb3 (by rw [World.size_alloc, World.size_alloc]; exact Nat.le_succ_of_le (Nat.le_succ_of_le hBX)) ?_))
      intro v' w8 hown hgrow _
      have HJ2 : Hid (PzJ B V1 (L.take (j + 1)) v' w8) := Lib.hid (by
        rw [HT.out]
        exact HJ.out.next HB.out (by rw [HLN.out]; exact hown) hgrow)
      clear hown hgrow HJ hb1 hb3 e1 e2 hBX HRW HNB
      go_wp2_with fail
      go_roundw
      case rel => exact ⟨j + 1, _, _, rfl, rfl, by omega, by go_num, HJ2⟩
      case measure => simp only [RowKit.intOf]; omega
    · have d1 : ¬ (j : Int) < (nL : Int) := by omega
      have HE : Hid (PzS w L (.returned (.tuple #[v0, .int .i64 0])) X) := Lib.hid (by
        have h1 := HJ.out
        rw [List.take_of_length_le (by rw [HNL.out]; omega)] at h1
        exact ⟨v0, rfl, row_weaken9 h1.1 (by rw [← HB.out]; exact H.out.2.size), H.out.2.go (h1.2.mono fun k hk => by rw [← HB.out]; exact hk)⟩)
      clear HJ
      go_wp2_with fail
      go_ret2
      exact HE.out

end Go.Proofs.Ytdbohcdjamhdjaa
/- The reference of layer 9 (tierceref09): add. -/
set_option linter.unusedVariables false
namespace Go.Proofs.Ytdbohcdjamhdjaa
open Go.RowKit

/-- Pages and counts, in a row. -/
abbrev E9 := List (Int × Nat)
theorem infoR9 : (Try.prog.info? 42).map (fun i => (i.zero, i.size, i.bytes)) = some (some (.agg #[.int .i64 0, .int .i64 0]), 2, 16) := by kernel_rfl
def cellsE9 (l : E9) : List Value := l.flatMap fun x => [.int .i64 x.1, .int .i64 (x.2 : Int)]
theorem cellsE9_snoc (l : E9) (q : Int) (c : Nat) : cellsE9 (l ++ [(q, c)]) = cellsE9 l ++ [.int .i64 q, .int .i64 (c : Int)] := by simp [cellsE9]
theorem cellsE9_at (L : E9) : ∀ i (h : i < L.length), (cellsE9 L)[i * 2]? = some (.int .i64 L[i].1) ∧ (cellsE9 L)[i * 2 + 1]? = some (.int .i64 (L[i].2 : Int)) := by
  induction L with
  | nil => intro i h; cases h
  | cons q r ih =>
    intro i h
    cases i with
    | zero => exact ⟨rfl, rfl⟩
    | succ i =>
      have := ih i (by simpa using h)
      rw [show (i + 1) * 2 = i * 2 + 1 + 1 by omega]
      exact this
def SrtE (l : E9) : Prop := l.Pairwise fun a b => a.1 < b.1
def chgE (k : Int) (v : Nat) (qs : E9) : E9 := (qs.filter fun p => decide (p.1 < k)) ++ [(k, v)] ++ qs.filter fun p => decide (k < p.1)
def dnE (k : Int) (qs : E9) : Bool := qs.any fun p => decide (k ≤ p.1)
def outE (k : Int) (v : Nat) (qs : E9) : E9 := (qs.filter fun p => decide (p.1 < k)) ++ (if dnE k qs = true then [(k, v)] else []) ++ qs.filter fun p => decide (k < p.1)
theorem outE_len (k : Int) (v : Nat) (qs : E9) : (outE k v qs).length ≤ qs.length + 1 := by
  have h : (qs.filter fun p => decide (p.1 < k)).length + (qs.filter fun p => decide (k < p.1)).length ≤ qs.length := by
    induction qs with
    | nil => simp
    | cons p r ih =>
      rw [List.filter_cons, List.filter_cons]
      by_cases hp : p.1 < k
      · rw [if_pos (by simpa using hp), if_neg (by simp; omega), List.length_cons, List.length_cons]; omega
      · rw [if_neg (by simpa using hp), List.length_cons]
        split
        · rw [List.length_cons]; omega
        · omega
  unfold outE
  rw [List.length_append, List.length_append]
  split
  · rw [List.length_singleton]; omega
  · rw [List.length_nil]; omega
theorem dnE_snoc (k : Int) (a : E9) (e : Int × Nat) : dnE k (a ++ [e]) = (dnE k a || decide (k ≤ e.1)) := by simp [dnE]
theorem dnE_low {k : Int} {a : E9} {e : Int × Nat} (hs : SrtE (a ++ [e])) (he : e.1 ≤ k) : dnE k a = false := by
  unfold dnE
  rw [List.any_eq_false]
  intro p hp
  have := (List.pairwise_append.1 hs).2.2 p hp e (by simp)
  simp; omega
theorem gtE_none {k : Int} {a : E9} (h : dnE k a = false) : (a.filter fun p => decide (k < p.1)) = [] := by
  rw [List.filter_eq_nil_iff]
  intro p hp
  unfold dnE at h
  have := List.any_eq_false.1 h p hp
  simp at this ⊢
  omega
theorem outE_A {k : Int} {v : Nat} {a : E9} {e : Int × Nat} (hs : SrtE (a ++ [e])) (he : e.1 < k) : outE k v (a ++ [e]) = outE k v a ++ [e] ∧ dnE k (a ++ [e]) = false ∧ dnE k a = false := by
  have h1 := dnE_low hs (Int.le_of_lt he)
  have h2 : dnE k (a ++ [e]) = false := by rw [dnE_snoc, h1]; simp; omega
  refine ⟨?_, h2, h1⟩
  unfold outE
  rw [gtE_none h1, gtE_none h2, h1, h2, List.filter_append]
  simp [he]
theorem outE_B {k : Int} {v : Nat} {a : E9} {e : Int × Nat} (hs : SrtE (a ++ [e])) (he : e.1 = k) : outE k v (a ++ [e]) = outE k v a ++ [(k, v)] ∧ dnE k (a ++ [e]) = true ∧ dnE k a = false := by
  have h1 := dnE_low hs (Int.le_of_eq he)
  have h2 : dnE k (a ++ [e]) = true := by rw [dnE_snoc]; simp; omega
  refine ⟨?_, h2, h1⟩
  unfold outE
  rw [List.filter_append, List.filter_append, gtE_none h1, h1, h2]
  simp [he]
theorem outE_C {k : Int} {v : Nat} {a : E9} {e : Int × Nat} (he : k < e.1) (hd : dnE k a = true) : outE k v (a ++ [e]) = outE k v a ++ [e] ∧ dnE k (a ++ [e]) = true := by
  have h2 : dnE k (a ++ [e]) = true := by rw [dnE_snoc, hd]; rfl
  refine ⟨?_, h2⟩
  unfold outE
  rw [List.filter_append, List.filter_append, hd, h2]
  have h3 : ¬ e.1 < k := by omega
  simp [he, h3]
theorem outE_D {k : Int} {v : Nat} {a : E9} {e : Int × Nat} (he : k < e.1) (hd : dnE k a = false) : outE k v (a ++ [e]) = (outE k v a ++ [(k, v)]) ++ [e] ∧ dnE k (a ++ [e]) = true := by
  have h2 : dnE k (a ++ [e]) = true := by rw [dnE_snoc]; simp; omega
  refine ⟨?_, h2⟩
  unfold outE
  rw [List.filter_append, List.filter_append, gtE_none hd, hd, h2]
  have h3 : ¬ e.1 < k := by omega
  simp [he, h3]
theorem outE_end (k : Int) (v : Nat) (qs : E9) : (if dnE k qs = true then outE k v qs else outE k v qs ++ [(k, v)]) = chgE k v qs := by
  unfold outE chgE
  cases h : dnE k qs with
  | true => simp
  | false => simp [gtE_none h]

/-- Pages and counts in memory. -/
structure IsE9 (W : World) (a : Option Addr) (L : E9) : Prop where
  len : L.length ≤ maxLen
  cells : 0 < L.length → ∃ b off, a = some ⟨b, off, none⟩ ∧ b < W.heap.size ∧ ∀ i (h : i < L.length), W.cell? ⟨b, off + i * 2, none⟩ = some (.int .i64 L[i].1) ∧ W.cell? ⟨b, off + i * 2 + 1, none⟩ = some (.int .i64 (L[i].2 : Int))
theorem IsE9.kept {X : Nat → Prop} {W W' : World} {a : Option Addr} {L : E9} (h : IsE9 W a L) (hk : KeptIn X W W') (hX : ∀ k, k < W.heap.size → X k) : IsE9 W' a L :=
  ⟨h.len, fun hp => by
    obtain ⟨b, off, e, hb, hc⟩ := h.cells hp
    have hb' := hk.block b (hX b hb)
    exact ⟨b, off, e, Nat.lt_of_lt_of_le hb hk.size, fun i hi => ⟨(World.cell?_of_block (a := ⟨b, off + i * 2, none⟩) hb').trans (hc i hi).1, (World.cell?_of_block (a := ⟨b, off + i * 2 + 1, none⟩) hb').trans (hc i hi).2⟩⟩⟩
theorem row_IsE9 {W : World} {B cap : Nat} {a : Option Addr} {L : E9} (h : W.ownsRow B 42 2 (.slice a L.length cap) L.length (cellsE9 L)) : IsE9 W a L := by
  rcases h.2 with ⟨e, h0⟩ | ⟨g, cap', cur, e, hg, hb, hc, hm, hs, ht⟩
  · exact ⟨by rw [h0]; exact Nat.zero_le _, fun hp => by omega⟩
  · simp only [Value.slice.injEq, true_and] at e
    refine ⟨Nat.le_trans hc hm, fun _ => ⟨g, 0, e.1, (Array.getElem?_eq_some_iff.1 hb).1, fun i hi => ?_⟩⟩
    obtain ⟨h1, h2⟩ := cellsE9_at L i hi
    rw [← ht, List.getElem?_take_of_lt (by omega)] at h1 h2
    rw [Nat.zero_add, cell_of_row _ _ _ _ _ _ hb, cell_of_row _ _ _ _ _ _ hb]
    exact ⟨by simpa using h1, by simpa using h2⟩

/-- A row that add makes. -/
def AdJ (B : Nat) (V : World) (L : E9) (v : Value) (W : World) : Prop := W.ownsRow B 42 2 v L.length (cellsE9 L) ∧ KeptIn (· < B) V W
theorem AdJ.start (w : World) : AdJ w.heap.size w [] (.slice (some ⟨w.heap.size, 0, none⟩) 0 0) (w.alloc (.cells #[] 42)) :=
  ⟨World.ownsRow_made w #[] 0 (Nat.le_refl _) (by decide) rfl, (KeptIn.refl _ w).alloc (fun _ h => h) _⟩
theorem AdJ.old {B : Nat} {V W W' : World} {L : E9} {v : Value} (h : AdJ B V L v W) (hB : V.heap.size = B) (hk : KeptIn (· < W.heap.size) W W') : AdJ B V L v W' :=
  ⟨rowS_block h.1 fun g e => hk.block g (rowS_lt h.1 g e).2, h.2.trans (hk.mono fun k hk' => by have := h.2.size; omega)⟩
theorem AdJ.next {B : Nat} {V W w8 : World} {L : E9} {q : Int} {c : Nat} {v v' : Value} {o : Obj} (h : AdJ B V L v W) (hB : V.heap.size = B) (hown : w8.ownsRow B 42 2 v' (L.length + 1) (cellsE9 L ++ [.int .i64 q, .int .i64 (c : Int)]))
    (hgrow : (W.alloc o).grownBy w8 v.ownBlock) : AdJ B V (L ++ [(q, c)]) v' w8 := by
  refine ⟨?_, ?_⟩
  · rw [List.length_append, cellsE9_snoc]; exact hown
  · exact (h.2.trans (((KeptIn.refl _ W).alloc (fun _ h => h) _).mono fun k hk => Nat.lt_of_lt_of_le (by rw [hB]; exact hk) h.2.size)).grown (fun k hk => by rw [hB]; exact hk) hgrow (fun g e => Nat.not_lt.2 (rowS_lt h.1 g e).1)
/-- What add answers. -/
def AdS (w : World) (L : E9) (e : Ending) (w' : World) : Prop := ∃ v, e = .returned v ∧ w'.ownsRow w.heap.size 42 2 v L.length (cellsE9 L) ∧ KeptIn (· < w.heap.size) w w'
theorem ad_num (c : Nat) (h : c ≤ 100000) : ∃ c2 : Nat, c + 1 = c2 ∧ wrap64 ((c : Int) + 1) = (c2 : Int) ∧ (c : Int) + 1 = (c2 : Int) ∧ wrap64 (c2 : Int) = (c2 : Int) := ⟨c + 1, rfl, by unfold wrap64; omega, by omega, by unfold wrap64; omega⟩
theorem ad_bnd (j : Nat) (h : j ≤ 3000) : j + 1 ≤ maxLen ∧ (j + 1) * 16 ≤ 140737488355328 := by
  refine ⟨?_, by omega⟩
  unfold maxLen
  omega

end Go.Proofs.Ytdbohcdjamhdjaa
/- The reference of layer 9 (tierceref09): add, the walk. -/
set_option linter.unusedVariables false
namespace Go.Proofs.Ytdbohcdjamhdjaa
open Go.RowKit

theorem absentE {qs : E9} {p : Int} (hs : SrtE qs) {j : Nat} (hj : j < qs.length) (hd : dnE p (qs.take j) = false) (hq : p < qs[j].1) : ∀ x ∈ qs, x.1 ≠ p := by
  intro x hx e
  obtain ⟨i, hi, rfl⟩ := List.getElem_of_mem hx
  rcases Nat.lt_trichotomy i j with h | h | h
  · have hm : qs[i] ∈ qs.take j := List.mem_take_iff_getElem.2 ⟨i, by omega, rfl⟩
    have := List.any_eq_false.1 hd _ hm
    simp at this
    omega
  · subst h
    omega
  · have := List.pairwise_iff_getElem.1 hs j i hj hi h
    omega
theorem take_snocE (qs : E9) (j : Nat) (h : j < qs.length) : qs.take (j + 1) = qs.take j ++ [(qs[j].1, qs[j].2)] := by
  rw [List.take_add_one, List.getElem?_eq_getElem h]; rfl


set_option maxHeartbeats 8000000 in
set_option maxRecDepth 100000 in
theorem r9add (a : Option Addr) (cap : Nat) (qs : E9) (p : Int) (v : Nat) (w : World) (h : IsE9 w a qs) (hs : SrtE qs) (hl : qs.length ≤ 2000) (hcb : ∀ x ∈ qs, x.2 ≤ 100000) (hv : ∀ x ∈ qs, x.1 = p → x.2 + 1 = v) (hv0 : (∀ x ∈ qs, x.1 ≠ p) → v = 1) :
    Calls Try.prog 28 #[.slice a qs.length cap, .int .i64 p] w (AdS w (chgE p v qs)) := by
  obtain ⟨n, hn⟩ : ∃ n, qs.length = n := ⟨_, rfl⟩
  have hnI : (n : Int) ≤ 2000 := by omega
  have HN := Lib.hid hn
  have HS := Lib.hid (And.intro hs (And.intro hcb (And.intro hv hv0)))
  obtain ⟨R, hR⟩ : ∃ R, chgE p v qs = R := ⟨_, rfl⟩
  have HR := Lib.hid hR
  rw [hn, hR]
  have H00 := AdJ.start w
  obtain ⟨W0, hW0⟩ : ∃ W0, w.alloc (.cells #[] 42) = W0 := ⟨_, rfl⟩
  rw [hW0] at H00
  obtain ⟨B, hB⟩ : ∃ B, w.heap.size = B := ⟨_, rfl⟩
  rw [hB] at H00
  have HJ0 : Hid (AdJ B w (outE p v (qs.take 0)) (.slice (some ⟨B, 0, none⟩) 0 0) W0) := Lib.hid H00
  have H := Lib.hid h
  have HW := Lib.hid hW0
  have HB := Lib.hid hB
  obtain ⟨ii, hii, hz0, hz1, hz2⟩ := info_parts infoR9
  clear h hs hn hl hcb hv hv0 hR hW0 hB H00
  go_enter Try.func28, Try.ntmps28
  go_wp2_with fail
  rw [HW.out]
  simp only [HB.out]
  go_loopw [5, 6, 7, 8] (fun v1 d i _ wr => ∃ (j : Nat) (W : World) (v0 : Value), W = wr ∧ v0 = v1 ∧ j ≤ n ∧ i = .int .i64 (j : Int) ∧ d = .bool (dnE p (qs.take j)) ∧ Hid (AdJ B w (outE p v (qs.take j)) v0 W)) (fun _ _ i _ _ => n - (RowKit.intOf i).toNat)
  case atStart => exact ⟨0, _, _, rfl, rfl, Nat.zero_le _, rfl, rfl, HJ0⟩
  case round =>
    obtain ⟨j, W, v0, rfl, rfl, hj, rfl, rfl, HJ⟩ := hrel
    clear HJ0
    by_cases hlt : j < n
    · have d0 : (0 : Int) ≤ (j : Int) := by omega
      have d1 : (j : Int) < (n : Int) := by omega
      have hjl : j < qs.length := by rw [HN.out]; exact hlt
      have HBW : Hid (B ≤ W.heap.size) := Lib.hid (by have := HJ.out.2.size; rw [HB.out] at this; exact this)
      obtain ⟨b, off, rfl, hb, hc⟩ := (H.out.kept HJ.out.2 (fun k hk => by rw [← HB.out]; exact hk)).cells (by omega)
      obtain ⟨c1, c2⟩ := hc j hjl
      have hts := take_snocE qs j hjl
      have hst : SrtE (qs.take j ++ [(qs[j].1, qs[j].2)]) := by rw [← hts]; exact HS.out.1.sublist (List.take_sublist _ _)
      have hab := absentE (p := p) HS.out.1 hjl
      have hcb := HS.out.2.1 qs[j] (List.getElem_mem hjl)
      have hvj := HS.out.2.2.1 qs[j] (List.getElem_mem hjl)
      obtain ⟨q, hq⟩ : ∃ q, qs[j].1 = q := ⟨_, rfl⟩
      obtain ⟨c, hcc⟩ : ∃ c, qs[j].2 = c := ⟨_, rfl⟩
      rw [hq] at c1 hts hst hab hvj
      rw [hcc] at c2 hts hst hcb hvj
      have HK := Lib.hid (And.intro hq hcc)
      have hol := outE_len p v (qs.take j)
      obtain ⟨hb1, hb2⟩ := ad_bnd (outE p v (qs.take j)).length (Nat.le_trans hol (by rw [List.length_take]; omega))
      rcases Int.lt_trichotomy q p with hlt2 | heq | hgt
      · obtain ⟨o1, o2, o3⟩ := outE_A (v := v) hst hlt2
        rw [← hts] at o1 o2
        have HO := Lib.hid (And.intro o1 o2)
        rw [o3]
        have u1 : ¬ p < q := by omega
        have u2 : decide (p < q) = false := decide_eq_false u1
        have m1 : (q == p) = false := by rw [beq_eq_false_iff_ne]; omega
        have m2 : ¬ q = p := by omega
        have m3 : decide (q = p) = false := decide_eq_false m2
        clear HK hc hq hcc hjl hst hts o1 o2 o3 hol hab hcb hvj
        obtain ⟨xb, hxb⟩ : ∃ xb, W.heap.size = xb := ⟨_, rfl⟩
        obtain ⟨X1, hX1⟩ : ∃ X1, W.alloc (.cells #[.int .i64 q, .int .i64 (c : Int)] 42) = X1 := ⟨_, rfl⟩
        have hkx : KeptIn (· < W.heap.size) W X1 := by rw [← hX1]; exact (KeptIn.refl _ W).alloc (fun _ h => h) _
        have hbx : X1.heap[xb]? = some (.cells #[.int .i64 q, .int .i64 (c : Int)] 42 (0, 0)) := by rw [← hX1, ← hxb]; exact heap_alloc_new W _
        have x0 : X1.cell? ⟨xb, 0, none⟩ = some (.int .i64 q) := (cell_of_row _ _ 0 _ _ _ hbx).trans rfl
        have x1 : X1.cell? ⟨xb, 1, none⟩ = some (.int .i64 (c : Int)) := (cell_of_row _ _ 1 _ _ _ hbx).trans rfl
        have HJ1 : Hid (AdJ B w (outE p v (qs.take j)) v0 X1) := Lib.hid (HJ.out.old HB.out hkx)
        have HB1 : Hid (B ≤ X1.heap.size) := Lib.hid (by have := HJ1.out.2.size; rw [HB.out] at this; exact this)
        clear hkx hbx
        go_wp2_with (at_builtin; refine wpList_append_own _ rfl _ _ 37 rfl B 42 ii _ 2 16 Try.underlying37 hii hz0 hz1 hz2 rfl (by decide) _ _ _ rfl (HJ1.out.1.alloc _) ⟨X1.heap.size, 0, none⟩ 1 1 [.int .i64 q, .int .i64 (c : Int)] rfl rfl (World.news_of_block (cs := #[.int .i64 q, .int .i64 (c : Int)]) (t := 42) (fr := (0, 0)) (heap_alloc_new X1 _)) (by simp [Value.oneCell']) hb1 hb2 (by rw [World.size_alloc]; exact Nat.le_succ_of_le HB1.out) ?_)
        intro v' w8 hown hgrow _
        have HJ2 : Hid (AdJ B w (outE p v (qs.take (j + 1))) v' w8) := Lib.hid (by rw [HO.out.1]; exact HJ1.out.next HB.out hown hgrow)
        clear hown hgrow HJ HJ1 hb1 hb2 x0 x1 c1 c2
        go_wp2_with fail
        go_roundw
        case rel => exact ⟨j + 1, _, _, rfl, rfl, by omega, by go_num, by rw [HO.out.2], HJ2⟩
        case measure => simp only [RowKit.intOf]; omega
      · obtain ⟨o1, o2, o3⟩ := outE_B (v := v) hst heq
        rw [← hts] at o1 o2
        have hc2 := hvj heq
        obtain ⟨c9, f1, f2, f3, f4⟩ := ad_num c hcb
        obtain rfl : c9 = v := by omega
        obtain rfl : q = p := heq
        have HO := Lib.hid (And.intro o1 o2)
        rw [o3]
        have u1 : ¬ q < q := by omega
        have u2 : decide (q < q) = false := decide_eq_false u1
        have m1 : (q == q) = true := by simp
        obtain ⟨xb, hxb⟩ : ∃ xb, W.heap.size = xb := ⟨_, rfl⟩
        obtain ⟨X1, hX1⟩ : ∃ X1, W.alloc (.cells #[.int .i64 q, .int .i64 (c : Int)] 42) = X1 := ⟨_, rfl⟩
        have hkx : KeptIn (· < W.heap.size) W X1 := by rw [← hX1]; exact (KeptIn.refl _ W).alloc (fun _ h => h) _
        have hbx : X1.heap[xb]? = some (.cells #[.int .i64 q, .int .i64 (c : Int)] 42 (0, 0)) := by rw [← hX1, ← hxb]; exact heap_alloc_new W _
        have x0 : X1.cell? ⟨xb, 0, none⟩ = some (.int .i64 q) := (cell_of_row _ _ 0 _ _ _ hbx).trans rfl
        have x1 : X1.cell? ⟨xb, 1, none⟩ = some (.int .i64 (c : Int)) := (cell_of_row _ _ 1 _ _ _ hbx).trans rfl
        obtain ⟨X2, hX2⟩ : ∃ X2, X1.setCell ⟨xb, 1, none⟩ (.int .i64 (c9 : Int)) = X2 := ⟨_, rfl⟩
        have hk2 : KeptIn (· < W.heap.size) W X2 := by rw [← hX2]; exact hkx.setCell (p := ⟨xb, 1, none⟩) (by simp [hxb]) _
        have hb2x : X2.heap[xb]? = some (.cells #[.int .i64 q, .int .i64 (c9 : Int)] 42 (0, 0)) := by rw [← hX2]; exact (heap_setCell_same _ _ _ _ _ _ hbx).trans rfl
        have x2 : X1.frozen? ⟨xb, 1, none⟩ = false := by simp [World.frozen?, hbx]
        have x3 : X2.cell? ⟨xb, 0, none⟩ = some (.int .i64 q) := (cell_of_row _ _ 0 _ _ _ hb2x).trans rfl
        have x4 : X2.cell? ⟨xb, 1, none⟩ = some (.int .i64 (c9 : Int)) := (cell_of_row _ _ 1 _ _ _ hb2x).trans rfl
        have HJ1 : Hid (AdJ B w (outE q c9 (qs.take j)) v0 X2) := Lib.hid (HJ.out.old HB.out hk2)
        have HB1 : Hid (B ≤ X2.heap.size) := Lib.hid (by have := HJ1.out.2.size; rw [HB.out] at this; exact this)
        clear HK hc hq hcc hjl hst hts o1 o2 o3 hol hab hcb hvj hc2 hkx hbx hk2 hb2x f1
        go_wp2_with (at_builtin; refine wpList_append_own _ rfl _ _ 37 rfl B 42 ii _ 2 16 Try.underlying37 hii hz0 hz1 hz2 rfl (by decide) _ _ _ rfl (HJ1.out.1.alloc _) ⟨X2.heap.size, 0, none⟩ 1 1 [.int .i64 q, .int .i64 (c9 : Int)] rfl rfl (World.news_of_block (cs := #[.int .i64 q, .int .i64 (c9 : Int)]) (t := 42) (fr := (0, 0)) (heap_alloc_new X2 _)) (by simp [Value.oneCell']) hb1 hb2 (by rw [World.size_alloc]; exact Nat.le_succ_of_le HB1.out) ?_)
        intro v' w8 hown hgrow _
        have HJ2 : Hid (AdJ B w (outE q c9 (qs.take (j + 1))) v' w8) := Lib.hid (by rw [HO.out.1]; exact HJ1.out.next HB.out hown hgrow)
        clear hown hgrow HJ HJ1 hb1 hb2 x0 x1 x2 x3 x4 c1 c2 f2 f3 f4 hX2 hX1
        go_wp2_with fail
        go_roundw
        case rel => exact ⟨j + 1, _, _, rfl, rfl, by omega, by go_num, by rw [HO.out.2], HJ2⟩
        case measure => simp only [RowKit.intOf]; omega
      · have u1 : p < q := hgt
        have u2 : decide (p < q) = true := decide_eq_true u1
        have m1 : (q == p) = false := by rw [beq_eq_false_iff_ne]; omega
        have m2 : ¬ q = p := by omega
        have m3 : decide (q = p) = false := decide_eq_false m2
        cases hdn : dnE p (qs.take j) with
        | true =>
          obtain ⟨o1, o2⟩ := outE_C (v := v) (a := qs.take j) (e := (q, c)) hgt hdn
          rw [← hts] at o1 o2
          have HO := Lib.hid (And.intro o1 o2)
          clear HK hc hq hcc hjl hst hts o1 o2 hol hab hcb hvj hdn
          obtain ⟨xb, hxb⟩ : ∃ xb, W.heap.size = xb := ⟨_, rfl⟩
          obtain ⟨X1, hX1⟩ : ∃ X1, W.alloc (.cells #[.int .i64 q, .int .i64 (c : Int)] 42) = X1 := ⟨_, rfl⟩
          have hkx : KeptIn (· < W.heap.size) W X1 := by rw [← hX1]; exact (KeptIn.refl _ W).alloc (fun _ h => h) _
          have hbx : X1.heap[xb]? = some (.cells #[.int .i64 q, .int .i64 (c : Int)] 42 (0, 0)) := by rw [← hX1, ← hxb]; exact heap_alloc_new W _
          have x0 : X1.cell? ⟨xb, 0, none⟩ = some (.int .i64 q) := (cell_of_row _ _ 0 _ _ _ hbx).trans rfl
          have x1 : X1.cell? ⟨xb, 1, none⟩ = some (.int .i64 (c : Int)) := (cell_of_row _ _ 1 _ _ _ hbx).trans rfl
          have HJ1 : Hid (AdJ B w (outE p v (qs.take j)) v0 X1) := Lib.hid (HJ.out.old HB.out hkx)
          have HB1 : Hid (B ≤ X1.heap.size) := Lib.hid (by have := HJ1.out.2.size; rw [HB.out] at this; exact this)
          clear hkx hbx
          go_wp2_with (at_builtin; refine wpList_append_own _ rfl _ _ 37 rfl B 42 ii _ 2 16 Try.underlying37 hii hz0 hz1 hz2 rfl (by decide) _ _ _ rfl (HJ1.out.1.alloc _) ⟨X1.heap.size, 0, none⟩ 1 1 [.int .i64 q, .int .i64 (c : Int)] rfl rfl (World.news_of_block (cs := #[.int .i64 q, .int .i64 (c : Int)]) (t := 42) (fr := (0, 0)) (heap_alloc_new X1 _)) (by simp [Value.oneCell']) hb1 hb2 (by rw [World.size_alloc]; exact Nat.le_succ_of_le HB1.out) ?_)
          intro v' w8 hown hgrow _
          have HJ2 : Hid (AdJ B w (outE p v (qs.take (j + 1))) v' w8) := Lib.hid (by rw [HO.out.1]; exact HJ1.out.next HB.out hown hgrow)
          clear hown hgrow HJ HJ1 hb1 hb2 x0 x1 c1 c2
          go_wp2_with fail
          go_roundw
          case rel => exact ⟨j + 1, _, _, rfl, rfl, by omega, by go_num, by rw [HO.out.2], HJ2⟩
          case measure => simp only [RowKit.intOf]; omega
        | false =>
          obtain ⟨o1, o2⟩ := outE_D (v := v) (a := qs.take j) (e := (q, c)) hgt hdn
          rw [← hts] at o1 o2
          obtain rfl : v = 1 := HS.out.2.2.2 (hab hdn hgt)
          have HO := Lib.hid (And.intro o1 o2)
          have HBN := Lib.hid (ad_bnd (outE p 1 (qs.take j) ++ [(p, 1)]).length (by rw [List.length_append, List.length_singleton]; have := List.length_take_le j qs; have := HN.out; omega))
          clear hc hq hcc hst hts o1 o2 hol hab hcb hvj hdn
          go_wp2_with (at_builtin; refine wpList_append_own _ rfl _ _ 37 rfl B 42 ii _ 2 16 Try.underlying37 hii hz0 hz1 hz2 rfl (by decide) _ _ _ rfl (HJ.out.1.alloc _) ⟨W.heap.size, 0, none⟩ 1 1 [.int .i64 p, .int .i64 (1 : Int)] rfl rfl (World.news_of_block (cs := #[.int .i64 p, .int .i64 (1 : Int)]) (t := 42) (fr := (0, 0)) (heap_alloc_new W _)) (by simp [Value.oneCell']) hb1 hb2 (by rw [World.size_alloc]; exact Nat.le_succ_of_le HBW.out) ?_)
          intro v' w8 hown hgrow _
          have HJ1 : Hid (AdJ B w (outE p 1 (qs.take j) ++ [(p, 1)]) v' w8) := Lib.hid (HJ.out.next HB.out hown hgrow)
          obtain ⟨b2, off2, e2, _, hc2⟩ := (H.out.kept HJ1.out.2 (fun k hk => by rw [← HB.out]; exact hk)).cells (by omega)
          obtain ⟨c1e, c2e⟩ := hc2 j hjl
          obtain ⟨rfl, rfl⟩ : b = b2 ∧ off = off2 := by cases e2; exact ⟨rfl, rfl⟩
          rw [HK.out.1] at c1e
          rw [HK.out.2] at c2e
          obtain ⟨xb, hxb⟩ : ∃ xb, w8.heap.size = xb := ⟨_, rfl⟩
          obtain ⟨X1, hX1⟩ : ∃ X1, w8.alloc (.cells #[.int .i64 q, .int .i64 (c : Int)] 42) = X1 := ⟨_, rfl⟩
          have hkx : KeptIn (· < w8.heap.size) w8 X1 := by rw [← hX1]; exact (KeptIn.refl _ w8).alloc (fun _ h => h) _
          have hbx : X1.heap[xb]? = some (.cells #[.int .i64 q, .int .i64 (c : Int)] 42 (0, 0)) := by rw [← hX1, ← hxb]; exact heap_alloc_new w8 _
          have x0 : X1.cell? ⟨xb, 0, none⟩ = some (.int .i64 q) := (cell_of_row _ _ 0 _ _ _ hbx).trans rfl
          have x1 : X1.cell? ⟨xb, 1, none⟩ = some (.int .i64 (c : Int)) := (cell_of_row _ _ 1 _ _ _ hbx).trans rfl
          obtain ⟨out2, hout2⟩ : ∃ out2, outE p 1 (qs.take j) ++ [(p, 1)] = out2 := ⟨_, rfl⟩
          have HO2 := Lib.hid hout2
          rw [hout2] at HJ1 HBN
          have HJ3 : Hid (AdJ B w out2 v' X1) := Lib.hid (HJ1.out.old HB.out hkx)
          have HB1 : Hid (B ≤ X1.heap.size) := Lib.hid (by have := HJ3.out.2.size; rw [HB.out] at this; exact this)
          clear HK hb1 hb2 hown hgrow c1 c2 e2 hc2 hjl hkx hbx hout2 HJ HJ1
          obtain ⟨hb1, hb2⟩ := HBN.out
          go_wp2_with (at_builtin; refine wpList_append_own _ rfl _ _ 37 rfl B 42 ii _ 2 16 Try.underlying37 hii hz0 hz1 hz2 rfl (by decide) _ _ _ rfl (HJ3.out.1.alloc _) ⟨X1.heap.size, 0, none⟩ 1 1 [.int .i64 q, .int .i64 (c : Int)] rfl rfl (World.news_of_block (cs := #[.int .i64 q, .int .i64 (c : Int)]) (t := 42) (fr := (0, 0)) (heap_alloc_new X1 _)) (by simp [Value.oneCell']) hb1 hb2 (by rw [World.size_alloc]; exact Nat.le_succ_of_le HB1.out) ?_)
          intro v'' w9 hown hgrow _
          have HJ4 : Hid (AdJ B w (outE p 1 (qs.take (j + 1))) v'' w9) := Lib.hid (by rw [HO.out.1, HO2.out]; exact HJ3.out.next HB.out hown hgrow)
          clear hown hgrow HJ3 hb1 hb2 x0 x1 c1e c2e
          go_wp2_with fail
          go_roundw
          case rel => exact ⟨j + 1, _, _, rfl, rfl, by omega, by go_num, by rw [HO.out.2], HJ4⟩
          case measure => simp only [RowKit.intOf]; omega
    · have d1 : ¬ (j : Int) < (n : Int) := by omega
      have htk : qs.take j = qs := List.take_of_length_le (by rw [HN.out]; omega)
      have hE := HJ.out
      have hend := outE_end p v qs
      have hlo := outE_len p v qs
      have hn2 := HN.out
      rw [htk] at hE ⊢
      rw [HR.out] at hend
      cases hdn : dnE p qs with
      | true =>
        rw [if_pos hdn] at hend
        rw [hend] at hE
        have HE : Hid (AdS w R (.returned v0) W) := Lib.hid ⟨v0, rfl, by rw [HB.out]; exact hE.1, by rw [HB.out]; exact hE.2⟩
        clear HJ hE hend hlo hn2 htk hdn
        go_wp2_with fail
        go_ret
        exact HE.out
      | false =>
        rw [if_neg (by rw [hdn]; decide)] at hend
        obtain ⟨hb1, hb2⟩ := ad_bnd (outE p v qs).length (by omega)
        have HBW : Hid (B ≤ W.heap.size) := Lib.hid (by have := hE.2.size; rw [HB.out] at this; exact this)
        obtain rfl : v = 1 := HS.out.2.2.2 fun x hx e => by
          have := List.any_eq_false.1 hdn x hx
          simp at this
          omega
        have HX := Lib.hid hE
        have HO := Lib.hid hend
        clear HJ hE hend hlo hn2 htk hdn
        go_wp2_with (at_builtin; refine wpList_append_own _ rfl _ _ 37 rfl B 42 ii _ 2 16 Try.underlying37 hii hz0 hz1 hz2 rfl (by decide) _ _ _ rfl (HX.out.1.alloc _) ⟨W.heap.size, 0, none⟩ 1 1 [.int .i64 p, .int .i64 (1 : Int)] rfl rfl (World.news_of_block (cs := #[.int .i64 p, .int .i64 (1 : Int)]) (t := 42) (fr := (0, 0)) (heap_alloc_new W _)) (by simp [Value.oneCell']) hb1 hb2 (by rw [World.size_alloc]; exact Nat.le_succ_of_le HBW.out) ?_)
        intro v' w8 hown hgrow _
        have HE : Hid (AdS w R (.returned v') w8) := Lib.hid (by
          have := HX.out.next HB.out hown hgrow
          rw [HO.out] at this
          exact ⟨v', rfl, by rw [HB.out]; exact this.1, by rw [HB.out]; exact this.2⟩)
        clear hown hgrow HX HO hb1 hb2
        go_wp2_with fail
        go_ret
        exact HE.out

end Go.Proofs.Ytdbohcdjamhdjaa
/- A page that isn't there: package tree's Reach and Check over a memo, reach's checkAll and Refs: ErrForm. -/
set_option linter.unusedVariables false
namespace Go.Proofs.Ytdbohcdjamhdjaa
open Go.RowKit

set_option maxRecDepth 100000 in
set_option maxHeartbeats 4000000 in
theorem trReachBad {N : List Nd} {w : World} {s room x c : Nat} {D : Nat → Prop} {M : Int → Option (Option Lf9)} (h : IsSh w s room N D) (hD : ∀ k, D k → k ≠ x) (hm : IsMm w x c N M) (root : Nat) (h0 : root ≠ 0) (hrw : (Lit.int .i64 (root : Int)).wf = true) (hb : (N.length : Int) < (root : Int)) :
    Calls Try.prog 41 #[mmI s x, .int .i64 (root : Int)] w fun e w' => e = .returned (.tuple #[.slice none 0 0, .int .i64 3]) ∧ KeptIn (fun j => j < w.heap.size ∧ j ≠ x) w w' := by
  have p0 : ((root : Int) == 0) = false := by rw [beq_eq_false_iff_ne]; omega
  have p1 : ¬ ((root : Int) = 0) := by omega
  obtain ⟨W, hW⟩ : ∃ W, w.alloc (.cells #[mmI s x, .slice none 0 0, .int .i64 0] 125) = W := ⟨_, rfl⟩
  have hkW : KeptIn (· < w.heap.size) w W := by rw [← hW]; exact (KeptIn.refl _ w).alloc (fun _ h => h) _
  have hbx : W.heap[w.heap.size]? = some (.cells #[mmI s x, .slice none 0 0, .int .i64 0] 125 (0, 0)) := by rw [← hW]; exact heap_alloc_new w _
  have hWs : W.heap.size = w.heap.size + 1 := by rw [← hW]; simp
  obtain ⟨S, hSe⟩ : ∃ S, w.heap.size = S := ⟨_, rfl⟩
  obtain ⟨B0, hB0⟩ : ∃ B0, W.heap.size = B0 := ⟨_, rfl⟩
  have hSB : S < B0 := by omega
  have HM : Hid (∀ V, KeptIn (· < W.heap.size) W V → Calls Try.prog 57 #[.pointer (some ⟨S, 0, none⟩), leadV root true 0 0 18446744073709551615] V (SoX V S B0 x)) := Lib.hid fun V hk => by
    have hsv0 : SvU W S (mmI s x) B0 (.slice none 0 0) [] := ⟨by rw [← hSe]; exact hbx, ⟨rfl, .inl ⟨rfl, rfl⟩⟩, hSB, Nat.le_of_eq hB0.symm⟩
    exact trSoundBad ((h.old hkW).old hk) (fun k hk => ⟨by rw [← hSe]; exact h.lt k hk, hD k hk⟩) (hsv0.old hk) ((hm.old hkW).old hk) hrw (.inr hb) (by simp) (by simp)
  have HE : Hid (∀ V V2, KeptIn (· < W.heap.size) W V → KeptIn (SdZ V S B0 x) V V2 → KeptIn (fun j => j < w.heap.size ∧ j ≠ x) w V2) := Lib.hid fun V V2 h1 h3 => ((hkW.go h1).mono fun j h => h.1).trans (h3.mono fun k hk2 => by
    have hz : w.heap.size ≤ V.heap.size := (hkW.go h1).size
    exact ⟨⟨by have := hk2.1; omega, by have := hk2.1; omega, .inl (by have := hk2.1; omega)⟩, hk2.2⟩)
  have HT := Lib.hid fun V => trToRoot root V
  have HW := Lib.hid hW
  have HSE := Lib.hid hSe
  clear hW hSe h hkW hbx hWs hB0 hm hD hrw hb h0
  unfold mmI mmV pgV leadV at *
  go_enter Try.func41, Try.ntmps41
  go_wp2_with (first
    | (go_at_call 46; rw [HW.out, HSE.out]; refine (HT.out _).mono ?_; rintro e V ⟨rfl, hk⟩; have HC := Lib.hid (HM.out V hk); have HK := Lib.hid hk; clear hk)
    | (go_at_call 57; refine HC.out.mono ?_; rintro e V2 ⟨rfl, hk4⟩; have HR := Lib.hid (HE.out V V2 HK.out hk4); clear hk4))
  go_ret2
  exact ⟨rfl, HR.out⟩

theorem trCheckBad {N : List Nd} {w : World} {s room x c : Nat} {D : Nat → Prop} {M : Int → Option (Option Lf9)} (h : IsSh w s room N D) (hD : ∀ k, D k → k ≠ x) (hm : IsMm w x c N M) (root : Nat) (h0 : root ≠ 0) (hrw : (Lit.int .i64 (root : Int)).wf = true) (hb : (N.length : Int) < (root : Int)) :
    Calls Try.prog 31 #[mmI s x, .int .i64 (root : Int)] w fun e w' => e = .returned (.int .i64 3) ∧ KeptIn (fun j => j < w.heap.size ∧ j ≠ x) w w' := by
  have HC := Lib.hid (trReachBad h hD hm root h0 hrw hb)
  unfold mmI mmV pgV at *
  clear h hm hD h0 hrw hb
  go_enter Try.func31, Try.ntmps31
  go_wp2_with (go_at_call 41; refine HC.out.mono ?_; rintro e V ⟨rfl, hk⟩; have HR := Lib.hid hk; clear hk)
  go_ret
  exact ⟨rfl, HR.out⟩

set_option maxRecDepth 100000 in
set_option maxHeartbeats 2000000 in
theorem ckBad {N : List Nd} {w : World} {s room x c cap : Nat} {D : Nat → Prop} {M : Int → Option (Option Lf9)} {a : Option Addr} {rs : List Int} (h : IsSh w s room N D) (hD : ∀ k, D k → k ≠ x) (hm : IsMm w x c N M) (hr : IntsL w a rs) (hrl : rs.length ≤ 1000) (root : Nat) (h1 : rs[0]? = some (root : Int)) (h0 : root ≠ 0) (hrw : (Lit.int .i64 (root : Int)).wf = true) (hb : (N.length : Int) < (root : Int)) :
    Calls Try.prog 23 #[mmV s x, .slice a rs.length cap] w fun e w' => e = .returned (.int .i64 3) ∧ KeptIn (fun k => k < w.heap.size ∧ k ≠ x) w w' := by
  obtain ⟨W, hW⟩ : ∃ W, (w.alloc (.cells #[pgV s, .map (some x)] 66)).alloc (.map #[] 0) = W := ⟨_, rfl⟩
  have hk : KeptIn (· < w.heap.size) w W := by rw [← hW]; exact ((KeptIn.refl _ w).alloc (fun _ h => h) _).alloc (fun _ h => h) _
  obtain ⟨B, hB⟩ : ∃ B, w.heap.size = B := ⟨_, rfl⟩
  have b0 : W.heap[B]? = some (.cells #[pgV s, .map (some x)] 66 (0, 0)) := by
    rw [← hW, ← hB, Lib.alloc_old _ _ _ (by simp)]
    exact heap_alloc_new w _
  have hT : MpAt unV (B + 1) 0 (fun _ => none) W := by
    have := MpAt.new (V := unV) (w.alloc (.cells #[pgV s, .map (some x)] 66))
    rw [World.size_alloc, hB, hW] at this
    exact this
  obtain ⟨r, hre⟩ : ∃ r : Int, (root : Int) = r := ⟨_, rfl⟩
  have hlt : 0 < rs.length := by
    rcases Nat.eq_zero_or_pos rs.length with e | e
    · rw [List.getElem?_eq_none (by omega)] at h1; cases h1
    · exact e
  have hlk := (hT.look unV_inj Try.underlying87 () (zeroEmpty9 W) r (by rw [← hre]; exact hrw)).1
  obtain ⟨gk, off, rfl, hgl, hcl⟩ := hr.cells hlt
  have e1 : W.cell? ⟨gk, off, none⟩ = some (.int .i64 r) := by
    have e0 := hcl 0 hlt
    have hrd : rs.getD 0 0 = r := by rw [List.getD_eq_getElem?_getD, h1]; exact hre
    rw [hrd] at e0
    exact (World.cell?_of_block (a := ⟨gk, off, none⟩) (hk.block gk hgl)).trans e0
  have hka : KeptIn (· < W.heap.size) W (W.alloc (.cells #[] 88)) := (KeptIn.refl _ W).alloc (fun _ h => h) _
  have hTa := hT.kept hka hT.lt
  obtain ⟨V2, hrun2, hT2, hk2, hsz2⟩ := hTa.store unV_inj Try.underlying87 (by unfold maxLen; omega) r (by rw [← hre]; exact hrw) ()
  have hyx : B + 1 ≠ x := by have := hm.lt; omega
  have hDy : ¬ D (B + 1) := fun e => by have := h.lt _ e; omega
  have hBW : B < W.heap.size := (Array.getElem?_eq_some_iff.1 b0).1
  have hB2 := (hk2.block B (by show B ≠ B + 1; omega)).trans ((hka.block B hBW).trans b0)
  have hmm2 := ((hm.old hk).old hka).map2 hTa hyx hk2
  have hsh2 := ((h.old hk).old hka).kept (hk2.mono fun k hk e => hDy (e ▸ hk))
  have C := trCheckBad hsh2 hD hmm2 root h0 hrw hb
  rw [hre] at C
  have q0 : V2.cell? ⟨B, 0, none⟩ = some (pgV s) := by simp [World.cell?, hB2]
  have q1 : V2.cell? ⟨B, 1, none⟩ = some (.map (some x)) := by simp [World.cell?, hB2]
  have hkf : ∀ V3, KeptIn (fun j => j < V2.heap.size ∧ j ≠ x) V2 V3 → KeptIn (fun k => k < w.heap.size ∧ k ≠ x) w V3 := fun V3 h3 => by
    have h4 : KeptIn (fun k => k < w.heap.size ∧ k ≠ x) w (W.alloc (.cells #[] 88)) := (hk.go hka).mono fun k h => h.1
    exact (h4.trans (hk2.mono fun k h => by show k ≠ B + 1; have := h.1; omega)).trans (h3.mono fun k h => ⟨Nat.lt_of_lt_of_le h.1 (Nat.le_trans h4.size hk2.size), h.2⟩)
  have HC := Lib.hid C
  have HKF := Lib.hid hkf
  have HW := Lib.hid (And.intro hW hB)
  obtain ⟨n, hn⟩ : ∃ n, rs.length = n := ⟨_, rfl⟩
  rw [hn] at hlt ⊢
  have t1 : (0 : Int) < (n : Int) := by omega
  unfold unV at hlk hrun2
  unfold mmI mmV pgV at HC
  unfold mmV pgV at *
  have HR2 := Lib.hid hrun2
  clear h hD hm hr hrl h1 h0 hrw hb hW hk b0 hB hT hre hgl hcl hka hTa hT2 hk2 hsz2 hyx hDy hBW hB2 hmm2 hsh2 C hkf hn hrun2
  go_enter Try.func23, Try.ntmps23
  have hmm := @run_makeMap Try.prog
  go_upto_region 3 with fail
  clear hmm
  rw [HW.out.1]
  try simp only [World.size_alloc]
  try rw [HW.out.2]
  go_wp2_with fail
  have hrun2 := HR2.out
  go_loopw [5, 15] (fun e i wr => wr = W ∧ e = .int .i64 0 ∧ i = .int .i64 0) (fun _ _ _ => 0)
  case atStart => exact ⟨rfl, rfl, rfl⟩
  case round =>
    obtain ⟨rfl, rfl, rfl⟩ := hrel
    go_wp2_with (go_at_call 31; refine HC.out.mono ?_; rintro e V3 ⟨rfl, hk3⟩; have HV3 := Lib.hid (HKF.out V3 hk3); clear hk3)
    go_ret
    exact ⟨rfl, HV3.out⟩

set_option maxRecDepth 100000 in
set_option maxHeartbeats 4000000 in
theorem rcBad {N : List Nd} {w : World} {s room cap : Nat} {D : Nat → Prop} {a : Option Addr} {rs : List Int} (h : IsSh w s room N D) (hr : IntsL w a rs) (hrl : rs.length ≤ 1000) (root : Nat) (h1 : rs[0]? = some (root : Int)) (h0 : root ≠ 0) (hrw : (Lit.int .i64 (root : Int)).wf = true) (hb : (N.length : Int) < (root : Int)) :
    Calls Try.prog 8 #[pgV s, .slice a rs.length cap] w fun e w' => e = .returned (.tuple #[.slice none 0 0, .int .i64 3]) ∧ KeptIn (· < w.heap.size) w w' := by
  obtain ⟨B, hB⟩ : ∃ B, w.heap.size = B := ⟨_, rfl⟩
  obtain ⟨W, hW⟩ : ∃ W, (w.alloc (.map #[] 0)).alloc (.cells #[pgV s, .map (some B)] 66) = W := ⟨_, rfl⟩
  have hk : KeptIn (· < w.heap.size) w W := by rw [← hW]; exact ((KeptIn.refl _ w).alloc (fun _ h => h) _).alloc (fun _ h => h) _
  have hbox : W.heap[B + 1]? = some (.cells #[pgV s, .map (some B)] 66 (0, 0)) := by
    have := heap_alloc_new (w.alloc (.map #[] 0)) (.cells #[pgV s, .map (some B)] 66)
    rw [World.size_alloc, hB, hW] at this
    exact this
  have hmp : MpAt lfV9 B 0 (fun _ => none) W := by
    have h1 := MpAt.new (V := lfV9) w
    rw [hB] at h1
    exact h1.block (by rw [← hW]; exact Lib.alloc_old _ _ _ (by simp [hB]))
  have hmm : IsMm W B 0 N (fun _ => none) := ⟨hmp, fun p z hz => by cases hz⟩
  have hDlt : ∀ k, D k → k ≠ B := fun k hk' => by have := h.lt k hk'; omega
  have HCK := Lib.hid (ckBad (cap := cap) (h.old hk) hDlt hmm (intsL_keep hr hk fun k h => h) hrl root h1 h0 hrw hb)
  have HX := Lib.hid (And.intro hk hbox)
  have HW := Lib.hid (And.intro hW hB)
  obtain ⟨n, hn⟩ : ∃ n, rs.length = n := ⟨_, rfl⟩
  rw [hn] at HCK ⊢
  unfold mmV pgV at *
  clear h hr hW hk hbox hmp hmm hDlt hB hn hrl h1 h0 hrw hb
  go_enter Try.func8, Try.ntmps8
  have hmk := @run_makeMap Try.prog
  go_upto_region 2 with fail
  clear hmk
  simp only [HW.out.2]
  rw [HW.out.1]
  have c0 : W.cell? ⟨B + 1, 0, none⟩ = some (.iface 28 (.pointer (some ⟨s, 0, none⟩))) := by simp [World.cell?, HX.out.2]
  have c1 : W.cell? ⟨B + 1, 1, none⟩ = some (.map (some B)) := by simp [World.cell?, HX.out.2]
  go_wp2_with fail
  refine HCK.out.mono ?_
  rintro e V1 ⟨rfl, h4⟩
  have HE : Hid (KeptIn (· < w.heap.size) w V1) := Lib.hid (HX.out.1.trans (h4.mono fun k hk => ⟨Nat.lt_of_lt_of_le hk HX.out.1.size, by have := HW.out.2; omega⟩))
  clear h4 c0 c1 HX
  go_wp2_with fail
  go_ret2
  exact ⟨rfl, HE.out⟩

end Go.Proofs.Ytdbohcdjamhdjaa
/- Package reach's Refs over a Shelf with whatever nodes. -/
set_option linter.unusedVariables false
namespace Go.Proofs.Ytdbohcdjamhdjaa
open Go.RowKit

theorem tsG_root {NA : List NdA} {r : Int} (h : (tsG NA r).isSome = true) (h0 : r ≠ 0) : 1 ≤ r ∧ r ≤ (NA.length : Int) := by
  unfold tsG at h
  rw [if_neg h0, svG] at h
  cases hn : nodeI NA r with
  | some nd =>
    obtain ⟨i, hi, e, _⟩ := nodeI_at hn
    omega
  | none =>
    rw [hn] at h
    split at h
    · cases h
    · cases h
/-- What sound roots lead to is a page. -/
theorem cnA_page {NA : List NdA} (hl : NA.length ≤ 511) {rs : List Int} (hR : ∀ r ∈ rs, (tsG NA r).isSome = true) {P : Int → Bool} {x : Int} (h : 0 < cnA (N9 NA) rs P x) : 0 ≤ x ∧ x < 512 := by
  unfold cnA at h
  by_cases h1 : 0 < cnR rs x
  · obtain ⟨h2, h3⟩ := cnR_pos.1 h1
    have := tsG_root (hR x h2) h3
    omega
  · have h2 : 0 < cnP (N9 NA) P x := by omega
    unfold cnP at h2
    obtain ⟨i, hi, h3⟩ := sum_pos9.1 h2
    split at h3
    · unfold mlt at h3
      rw [List.getElem?_eq_getElem hi] at h3
      simp only at h3
      obtain ⟨h4, e⟩ := n9_at (NA := NA) rfl hi
      rw [e] at h3
      unfold toNd at h3
      split at h3
      · rename_i hg
        have hg0 := (good_parts hg.1).1
        split at h3
        · omega
        · rename_i hl0
          obtain ⟨v, hv, e2⟩ := vls_pos.1 h3
          obtain ⟨j, hj, e3⟩ := List.getElem_of_mem hv
          have := good_vals hg.1 (by intro e4; apply hl0; show NA[i].1.toNat = 0; omega) j hj
          have hva : valAt NA[i].2 j = v.2 := by
            have e3' : NA[i].2[j] = v := e3
            unfold valAt
            rw [List.getD_eq_getElem?_getD, List.getElem?_eq_getElem hj, e3']
            rfl
          rw [hva] at this
          unfold kv9 wrap64 at e2
          omega
      · simp at h3
    · omega

/-- What Refs answers over whatever nodes. -/
def RfG (w : World) (N : List Nd) (rs : List Int) (P : Int → Bool) : Bool → Ending → World → Prop
  | false, e, w' => e = .returned (.tuple #[.slice none 0 0, .int .i64 3]) ∧ KeptIn (· < w.heap.size) w w'
  | true, e, w' => RfS w N rs P e w'

set_option maxRecDepth 100000 in
set_option maxHeartbeats 4000000 in
theorem rcRefsG (hKO : KeysOk) {NA : List NdA} {N : List Nd} (hNA : N9 NA = N) {w : World} {s H cap : Nat} {a : Option Addr} {rs : List Int} (h : IsShA w s H NA) (hr : IntsL w a rs) (hrl : rs.length ≤ 100) (hwf : ∀ r ∈ rs, (Lit.int .i64 r).wf = true)
    {R : Bool} (hR : R = true ↔ ∀ r ∈ rs, (tsG NA r).isSome = true) (P : Int → Bool) (hP : ∀ q, P q = true ↔ ∃ r ∈ rs, q ∈ gG NA r) :
    Calls Try.prog 8 #[pgV s, .slice a rs.length cap] w (RfG w N rs P R) := by
  have hN : N.length ≤ 511 := n9_len hNA h
  have hlen : ∀ (i : Nat) (h : i < N.length), N[i].2.length ≤ 1000 := fun i hi => (n9_pos hNA h i hi).2
  obtain ⟨B, hB⟩ : ∃ B, w.heap.size = B := ⟨_, rfl⟩
  obtain ⟨W, hW⟩ : ∃ W, (w.alloc (.map #[] 0)).alloc (.cells #[pgV s, .map (some B)] 66) = W := ⟨_, rfl⟩
  have hk : KeptIn (· < w.heap.size) w W := by rw [← hW]; exact ((KeptIn.refl _ w).alloc (fun _ h => h) _).alloc (fun _ h => h) _
  have hbox : W.heap[B + 1]? = some (.cells #[pgV s, .map (some B)] 66 (0, 0)) := by
    have := heap_alloc_new (w.alloc (.map #[] 0)) (.cells #[pgV s, .map (some B)] 66)
    rw [World.size_alloc, hB, hW] at this
    exact this
  have hmp : MpAt lfV9 B 0 (fun _ => none) W := by
    have h1 := MpAt.new (V := lfV9) w
    rw [hB] at h1
    exact h1.block (by rw [← hW]; exact Lib.alloc_old _ _ _ (by simp [hB]))
  have hmm : IsMm W B 0 N (fun _ => none) := ⟨hmp, fun p z hz => by cases hz⟩
  have hDlt : H ≤ B := by rw [← hB]; exact h.le
  have HPG : Hid (R = true → ∀ x, 0 < cnA N rs P x → 0 ≤ x ∧ x < 512) := Lib.hid fun e x hx => by
    rw [← hNA] at hx
    exact cnA_page h.len (hR.1 e) hx
  have HCK := Lib.hid (ckAllG hNA (cap := cap) (h.old hk) hDlt hmm (intsL_keep hr hk fun k h => h) hwf (by omega) hR)
  have HX := Lib.hid (And.intro hk (And.intro hbox (And.intro hr (And.intro hwf (And.intro hlen (And.intro hrl (And.intro hP hN)))))))
  have HW := Lib.hid (And.intro hW hB)
  have HKO := Lib.hid hKO
  obtain ⟨n, hn⟩ : ∃ n, rs.length = n := ⟨_, rfl⟩
  have HN := Lib.hid hn
  rw [hn] at HCK ⊢
  unfold mmV pgV at *
  clear hKO h hr hP hW hk hbox hmp hmm hDlt hwf hB hn hlen hrl hN hR hNA
  go_enter Try.func8, Try.ntmps8
  have hmk := @run_makeMap Try.prog
  go_upto_region 2 with fail
  clear hmk
  simp only [HW.out.2]
  rw [HW.out.1]
  have c0 : W.cell? ⟨B + 1, 0, none⟩ = some (.iface 28 (.pointer (some ⟨s, 0, none⟩))) := by simp [World.cell?, HX.out.2.1]
  have c1 : W.cell? ⟨B + 1, 1, none⟩ = some (.map (some B)) := by simp [World.cell?, HX.out.2.1]
  cases R with
  | false =>
    unfold CaS at HCK
    go_wp2_with fail
    refine HCK.out.mono ?_
    rintro e V1 ⟨rfl, h4⟩
    have HE : Hid (KeptIn (· < w.heap.size) w V1) := Lib.hid (HX.out.1.trans (h4.mono fun k hk => ⟨Nat.lt_of_lt_of_le hk HX.out.1.size, by have := HW.out.2; omega⟩))
    clear h4 c0 c1 HX
    go_wp2_with fail
    go_ret2
    exact ⟨rfl, HE.out⟩
  | true =>
    unfold CaS at HCK
    unfold RfG
    go_wp2_with fail
    refine HCK.out.mono ?_
    rintro e V1 ⟨rfl, c', M', h1, h2, h3, h4⟩
    obtain ⟨hkW, hbox, hr, hwf, hlen, hrl, hP, hN⟩ := HX.out
    have hBW : B + 1 < W.heap.size := (Array.getElem?_eq_some_iff.1 hbox).1
    have hb1 : V1.heap[B + 1]? = some (.cells #[.iface 28 (.pointer (some ⟨s, 0, none⟩)), .map (some B)] 66 (0, 0)) := (h4.block (B + 1) ⟨hBW, by omega⟩).trans hbox
    have hkV : KeptIn (· < w.heap.size) w V1 := hkW.trans (h4.mono fun k hk => ⟨Nat.lt_of_lt_of_le hk hkW.size, by have := HW.out.2; omega⟩)
    have hMP : ∀ q, (M' q).isSome = P q := fun q => by
      rw [Bool.eq_iff_iff, hP q, h3 q]
      simp
    have hCn := rcCounts (s := s) (cap := cap) h1 (intsL_keep hr hkV fun k hk => hk) (by omega) (by have := HN.out; omega) hlen hwf
    have hPf : (fun q => (M' q).isSome) = P := funext hMP
    have HCN := Lib.hid (hCn.mono fun e w' hR => (by
      obtain ⟨y, ny, r1, r2, r3, r4⟩ := hR
      rw [hPf] at r2
      exact ⟨y, ny, r1, r2, r3, r4⟩ : ∃ y ny, e = .returned (.map (some y)) ∧ MpAt cnV y ny (cnM (cnA N rs P)) w' ∧ V1.heap.size ≤ y ∧ KeptIn (· < V1.heap.size) V1 w'))
    have HDM : Hid (∀ x, 0 < cnA N rs P x → 0 ≤ x ∧ x < 512) := Lib.hid (HPG.out (by trivial))
    have HKV := Lib.hid hkV
    rw [HN.out] at HCN
    unfold mmV pgV at HCN
    have c2 : V1.cell? ⟨B + 1, 0, none⟩ = some (.iface 28 (.pointer (some ⟨s, 0, none⟩))) := by simp [World.cell?, hb1]
    have c3 : V1.cell? ⟨B + 1, 1, none⟩ = some (.map (some B)) := by simp [World.cell?, hb1]
    clear HPG h1 h2 h3 h4 hkW hbox hr hwf hlen hrl hP hN hBW hb1 hkV hMP hCn hPf HCK HX c0 c1
    go_wp2_with fail
    refine HCN.out.mono ?_
    rintro e V2 ⟨y, ny, rfl, hmp, hy, hk2⟩
    obtain ⟨C, hC⟩ : ∃ C, cnA N rs P = C := ⟨_, rfl⟩
    obtain ⟨L, hL⟩ : ∃ L, need9 N rs P = L := ⟨_, rfl⟩
    have hL2 : upTo 512 (fun q => decide (0 < C q)) = L := by rw [← hL, ← hC]; rfl
    rw [hC] at hmp HDM
    have hK := HKO.out.1 (some y) V2
    have hS := HKO.out.2 V2 y ny 512 C hmp HDM.out (by omega)
    rw [hL2] at hS
    have HK := Lib.hid hK
    have HS := Lib.hid hS
    have HM := Lib.hid (And.intro hmp (And.intro (HKV.out.go hk2) (And.intro hC (And.intro hL (show L.length ≤ 512 by rw [← hL2]; exact upTo_length _ _)))))
    obtain ⟨V3, hV3⟩ : ∃ V3, V2.alloc (.cells #[.map (some y)] 68) = V3 := ⟨_, rfl⟩
    rw [hV3] at HK HS
    clear hmp hy hk2 hC hL hL2 hK hS hV3 c2 c3 HCN HKV HDM
    go_wp2_with (go_at_call 26; refine HK.out.mono ?_; rintro e V' ⟨rfl, rfl⟩)
    go_wp2_with fail
    refine HS.out.mono ?_
    rintro e V4 ⟨v4, rfl, hrow, hk4⟩
    obtain ⟨a4, c4, rfl⟩ := row_sliceI hrow
    have hL512 : L.length ≤ 512 := HM.out.2.2.2.2
    have hints := rowIntsL hrow (by unfold maxLen; omega)
    have hk3 : KeptIn (· < V2.heap.size) V2 V4 := hk4
    obtain ⟨nL, hnL⟩ : ∃ nL, L.length = nL := ⟨_, rfl⟩
    have hnLI : (nL : Int) ≤ 512 := by omega
    have HNL := Lib.hid hnL
    rw [hnL]
    obtain ⟨B4, hB4⟩ : ∃ B4, V4.heap.size = B4 := ⟨_, rfl⟩
    have HB4 := Lib.hid hB4
    have HI := Lib.hid (And.intro hints (And.intro (HM.out.1.kept hk3 HM.out.1.lt) (And.intro (HM.out.2.1.go hk3) (And.intro HM.out.2.2.1 HM.out.2.2.2.1))))
    have HJ0 : Hid (RfJ B4 V4 C (L.take 0) (.slice none 0 0) V4) := Lib.hid ⟨World.ownsRow_nil _ _ _ _, KeptIn.refl _ V4⟩
    have HQ : Hid (∀ q ∈ L, 0 ≤ q ∧ q < 512) := Lib.hid fun q hq => by
      rw [← HM.out.2.2.2.1] at hq
      obtain ⟨h1, h2, _⟩ := mem_upTo.1 hq
      exact ⟨h1, by omega⟩
    obtain ⟨ii, hii, hz0, hz1, hz2⟩ := info_parts infoRef9
    clear hrow hk4 hk3 hints hnL hB4 HM HK HS HKO hL512
    go_wp2_with fail
    go_loopw [9, 11, 28] (fun v _ i wr => ∃ (j : Nat) (X : World) (v0 : Value), X = wr ∧ v0 = v ∧ j ≤ nL ∧ i = .int .i64 (j : Int) ∧ Hid (RfJ B4 V4 C (L.take j) v0 X)) (fun _ _ i _ => nL - (RowKit.intOf i).toNat)
    case atStart => exact ⟨0, _, _, rfl, rfl, Nat.zero_le _, rfl, HJ0⟩
    case round =>
      obtain ⟨j, X, v0, rfl, rfl, hj, rfl, HJ⟩ := hrel
      clear HJ0
      have d0 : (0 : Int) ≤ (j : Int) := by omega
      by_cases hlt : j < nL
      · have d1 : (j : Int) < (nL : Int) := by omega
        have hjl : j < L.length := by rw [HNL.out]; exact hlt
        have hkX : KeptIn (· < V4.heap.size) V4 X := HJ.out.2.mono fun k hk => by rw [← HB4.out]; exact hk
        obtain ⟨bk, off, rfl, hbk, hcl⟩ := HI.out.1.cells (by omega)
        have e1 := (World.cell?_of_block (a := ⟨bk, off + j, none⟩) (hkX.block bk hbk)).trans (hcl j hjl)
        have hq0 := HQ.out L[j] (List.getElem_mem hjl)
        have hgd : L.getD j 0 = L[j] := by rw [List.getD_eq_getElem?_getD, List.getElem?_eq_getElem hjl]; rfl
        have htk : L.take (j + 1) = L.take j ++ [L[j]] := by rw [List.take_add_one, List.getElem?_eq_getElem hjl]; rfl
        rw [hgd] at e1
        obtain ⟨q, hq⟩ : ∃ q, L[j] = q := ⟨_, rfl⟩
        rw [hq] at e1 hq0 htk
        have hwq : (Lit.int .i64 q).wf = true := by
          simp [Lit.wf, IntKind.min, IntKind.max, IntKind.signed, IntKind.bits]
          omega
        have hmX := HI.out.2.1.kept hkX HI.out.2.1.lt
        have hlk := (hmX.look cnV_inj Try.underlying68 0 (zeroCn9 X) q hwq).2
        rw [cnM_get] at hlk
        unfold cnV at hlk
        have hlen : (L.take j).length = j := by rw [List.length_take]; omega
        have hrw := HJ.out.1
        rw [hlen] at hrw
        obtain ⟨hb1, hb2⟩ := rf_bnd j (by omega)
        have HRW := Lib.hid hrw
        have HLN := Lib.hid hlen
        have HT := Lib.hid htk
        have hBX : B4 ≤ X.heap.size := by have := HJ.out.2.size; rw [HB4.out] at this; exact this
        clear hkX hcl hgd htk hq hwq hmX hlen hrw hjl hbk hq0
        go_wp2_with (first
          | (at_builtin; refine wpList_append_own _ rfl _ _ 31 rfl B4 41 ii _ 2 16 Try.underlying31 hii hz0 hz1 hz2 rfl (by decide) _ _ _ rfl (HRW.out.alloc _) ⟨X.heap.size, 0, none⟩ 1 1 [.int .i64 q, .int .i64 (C q : Int)] rfl rfl (World.news_of_block (cs := #[.int .i64 q, .int .i64 (C q : Int)]) (t := 41) (fr := (0, 0)) (heap_alloc_new X _)) (by simp [Value.oneCell']) hb1 hb2 (by rw [World.size_alloc]; exact Nat.le_succ_of_le hBX) ?_))
        intro v' w8 hown hgrow _
        have HJ2 : Hid (RfJ B4 V4 C (L.take (j + 1)) v' w8) := Lib.hid (by
          rw [HT.out]
          exact HJ.out.next HB4.out (by rw [HLN.out]; exact hown) hgrow)
        clear hown hgrow HJ hb1 hb2 e1 hlk hBX HRW
        go_wp2_with fail
        go_roundw
        case rel => exact ⟨j + 1, _, _, rfl, rfl, by omega, by go_num, HJ2⟩
        case measure => simp only [RowKit.intOf]; omega
      · have d1 : ¬ (j : Int) < (nL : Int) := by omega
        have HE : Hid (RfS w N rs P (.returned (.tuple #[v0, .int .i64 0])) X) := Lib.hid (by
          have h1 := HJ.out
          rw [List.take_of_length_le (by rw [HNL.out]; omega)] at h1
          refine ⟨v0, rfl, ?_, HI.out.2.2.1.go (h1.2.mono fun k hk => by rw [← HB4.out]; exact hk)⟩
          rw [HI.out.2.2.2.1, HI.out.2.2.2.2]
          exact row_weaken9 h1.1 (by rw [← HB4.out]; exact HI.out.2.2.1.size))
        clear HJ
        go_wp2_with fail
        go_ret2
        exact HE.out

end Go.Proofs.Ytdbohcdjamhdjaa
/- The reference of layer 9 (tierceref09): rows of pages and counts: the mathematics; add to such a row. -/
set_option linter.unusedVariables false
namespace Go.Proofs.Ytdbohcdjamhdjaa
open Go.RowKit

/-- The pages that are led to, rising, and how often each is. -/
def enE (C : Int → Nat) : E9 := (upTo 512 fun q => decide (0 < C q)).map fun q => (q, C q)
theorem mem_enE {C : Int → Nat} {x : Int × Nat} : x ∈ enE C ↔ 0 ≤ x.1 ∧ x.1 < 512 ∧ 0 < C x.1 ∧ x.2 = C x.1 := by
  unfold enE
  rw [List.mem_map]
  constructor
  · rintro ⟨q, hq, rfl⟩
    obtain ⟨h1, h2, h3⟩ := mem_upTo.1 hq
    exact ⟨h1, by simpa using h2, by simpa using h3, rfl⟩
  · rintro ⟨h1, h2, h3, h4⟩
    refine ⟨x.1, mem_upTo.2 ⟨h1, by simpa using h2, by simpa using h3⟩, ?_⟩
    rw [← h4]
theorem enE_srt (C : Int → Nat) : SrtE (enE C) := by
  unfold SrtE enE
  rw [List.pairwise_map]
  exact upTo_sorted _ _
theorem enE_len (C : Int → Nat) : (enE C).length ≤ 512 := by
  unfold enE
  rw [List.length_map]
  exact upTo_length _ _
theorem enE_cells (C : Int → Nat) : cellsE9 (enE C) = cellsC C (upTo 512 fun q => decide (0 < C q)) := by
  unfold enE cellsE9 cellsC
  rw [List.flatMap_map]
theorem enE_congr {C D : Int → Nat} (h : ∀ q, C q = D q) : enE C = enE D := by rw [show C = D from funext h]
theorem enE_none {C : Int → Nat} (h : ∀ q, C q = 0) : enE C = [] := by
  rw [List.eq_nil_iff_forall_not_mem]
  intro x hx
  have := (mem_enE.1 hx).2.2.1
  rw [h] at this
  omega
theorem pw_filter9 {L : List Int} (hs : L.Pairwise (· < ·)) (p : Int) : (L.filter (fun q => decide (q < p)) ++ [p] ++ L.filter fun q => decide (p < q)).Pairwise (· < ·) := by
  rw [List.pairwise_append, List.pairwise_append]
  refine ⟨⟨hs.sublist List.filter_sublist, List.pairwise_singleton _ _, fun a ha b hb => ?_⟩, hs.sublist List.filter_sublist, fun a ha b hb => ?_⟩
  · rw [List.mem_singleton] at hb
    subst hb
    simpa using (List.mem_filter.1 ha).2
  · have hb2 : p < b := by simpa using (List.mem_filter.1 hb).2
    rcases List.mem_append.1 ha with ha | ha
    · have : a < p := by simpa using (List.mem_filter.1 ha).2
      omega
    · rw [List.mem_singleton] at ha
      omega
theorem lt_nodup9 {L : List Int} (h : L.Pairwise (· < ·)) : L.Nodup ∧ L.Pairwise (· ≤ ·) :=
  ⟨h.imp fun {a b} h => by intro e; omega, h.imp fun {a b} h => by omega⟩
theorem upTo_up (C : Int → Nat) (p : Int) (h0 : 0 ≤ p) (h1 : p < 512) : ((upTo 512 fun q => decide (0 < C q)).filter (fun q => decide (q < p)) ++ [p] ++ (upTo 512 fun q => decide (0 < C q)).filter fun q => decide (p < q)) = upTo 512 fun q => decide (0 < cnUp C p q) := by
  have a := pw_filter9 (upTo_sorted 512 fun q => decide (0 < C q)) p
  have b := upTo_sorted 512 fun q => decide (0 < cnUp C p q)
  refine sorted_eq9 (lt_nodup9 a).2 (lt_nodup9 b).2 (lt_nodup9 a).1 (lt_nodup9 b).1 fun x => ?_
  rw [List.mem_append, List.mem_append, List.mem_singleton, List.mem_filter, List.mem_filter, mem_upTo, mem_upTo]
  simp only [decide_eq_true_eq]
  unfold cnUp
  by_cases e : x = p
  · subst e
    simp
    omega
  · rw [if_neg e]
    constructor
    · rintro ((⟨h, _⟩ | h) | ⟨h, _⟩)
      · exact h
      · exact absurd h e
      · exact h
    · intro h
      rcases Int.lt_trichotomy x p with h2 | h2 | h2
      · exact .inl (.inl ⟨h, h2⟩)
      · exact absurd h2 e
      · exact .inr ⟨h, h2⟩
theorem enE_up (C : Int → Nat) (p : Int) (h0 : 0 ≤ p) (h1 : p < 512) : chgE p (C p + 1) (enE C) = enE (cnUp C p) := by
  have e : enE (cnUp C p) = ((upTo 512 fun q => decide (0 < C q)).filter (fun q => decide (q < p)) ++ [p] ++ (upTo 512 fun q => decide (0 < C q)).filter fun q => decide (p < q)).map fun q => (q, cnUp C p q) := by
    rw [upTo_up C p h0 h1]
    rfl
  rw [e, List.map_append, List.map_append]
  unfold chgE enE
  obtain ⟨L, hL⟩ : ∃ L, (upTo 512 fun q => decide (0 < C q)) = L := ⟨_, rfl⟩
  rw [hL, List.filter_map, List.filter_map]
  have e1 : (L.filter ((fun x : Int × Nat => decide (x.1 < p)) ∘ fun q => (q, C q))).map (fun q => (q, C q)) = (L.filter fun q => decide (q < p)).map fun q => (q, cnUp C p q) := by
    refine List.map_congr_left fun q hq => ?_
    have : q < p := by simpa using (List.mem_filter.1 hq).2
    unfold cnUp
    rw [if_neg (by omega)]
  have e2 : (L.filter ((fun x : Int × Nat => decide (p < x.1)) ∘ fun q => (q, C q))).map (fun q => (q, C q)) = (L.filter fun q => decide (p < q)).map fun q => (q, cnUp C p q) := by
    refine List.map_congr_left fun q hq => ?_
    have : p < q := by simpa using (List.mem_filter.1 hq).2
    unfold cnUp
    rw [if_neg (by omega)]
  have e3 : [p].map (fun q => (q, cnUp C p q)) = [(p, C p + 1)] := by
    unfold cnUp
    rw [List.map_cons, List.map_nil, if_pos rfl]
  rw [e1, e2, e3]

theorem r9addC (C : Int → Nat) (a : Option Addr) (cap : Nat) (p : Int) (w : World) (h : IsE9 w a (enE C)) (h0 : 0 ≤ p) (h1 : p < 512) (hb : ∀ q, C q ≤ 100000) :
    Calls Try.prog 28 #[.slice a (enE C).length cap, .int .i64 p] w (AdS w (enE (cnUp C p))) := by
  rw [← enE_up C p h0 h1]
  refine r9add a cap (enE C) p (C p + 1) w h (enE_srt C) (by have := enE_len C; omega) (fun x hx => ?_) (fun x hx e => ?_) (fun hn => ?_)
  · rw [(mem_enE.1 hx).2.2.2]; exact hb _
  · rw [(mem_enE.1 hx).2.2.2, e]
  · rcases Nat.eq_zero_or_pos (C p) with h2 | h2
    · rw [h2]
    · exact absurd rfl (hn (p, C p) (mem_enE.2 ⟨h0, h1, h2, rfl⟩))

/-- Counts are few. -/
theorem vls_le (ps : Pairs) (q : Int) : vls ps q ≤ ps.length := List.countP_le_length
theorem cnR_le (rs : List Int) (q : Int) : cnR rs q ≤ rs.length := List.countP_le_length
theorem sum_le9 {n m : Nat} {f : Nat → Nat} (h : ∀ i, i < n → f i ≤ m) : ((List.range n).map f).sum ≤ n * m := by
  induction n with
  | zero => simp
  | succ n ih =>
    rw [List.range_succ, List.map_append, List.sum_append]
    simp only [List.map_cons, List.map_nil, List.sum_cons, List.sum_nil, Nat.add_zero]
    have h1 := ih fun i hi => h i (by omega)
    have h2 := h n (by omega)
    rw [Nat.succ_mul]
    omega
theorem cnP_le {NA : List NdA} (hl : NA.length ≤ 511) (P : Int → Bool) (q : Int) : cnP (N9 NA) P q ≤ 511 * 15 := by
  unfold cnP
  refine Nat.le_trans (sum_le9 (m := 15) fun i hi => ?_) (Nat.mul_le_mul_right _ (by rw [N9, List.length_map]; exact hl))
  split
  · unfold mlt
    rw [List.getElem?_eq_getElem hi]
    simp only
    obtain ⟨h4, e⟩ := n9_at (NA := NA) rfl hi
    rw [e]
    unfold toNd
    split
    · rename_i hg
      split
      · omega
      · exact Nat.le_trans (vls_le _ _) (good_parts hg.1).2.2
    · simp
  · omega

end Go.Proofs.Ytdbohcdjamhdjaa
