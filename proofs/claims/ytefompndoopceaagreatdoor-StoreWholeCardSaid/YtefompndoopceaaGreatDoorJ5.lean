import Derived.Test.YtefompndoopceaaGreatDoorShelf
import Derived.Test.YtefompndoopceaaGreatDoorJ3
import Derived.WalkKit
import Derived.OwnWalkIn
import Derived.TacticsInMore
import Derived.CallsIn
/- disc's Loose: the places of the map, rising. -/
set_option linter.unusedVariables false
namespace Go.Proofs.YtefompndoopceaaGreatDoor
open Go.RowKit Go.Maps Go.Sort

theorem sortsI (m : Nat) : AnyZI.SortsIn Tryz.prog Tryz.sortedI_ren Fence.wide m :=
  ⟨fun blk off cap ss W hH hblk hsz => callsIn_wide.2 (AnyM.slices_Sort_int Tryz.sortI blk off cap ss W hH hblk hsz),
   fun p cap W => callsIn_wide.2 (AnyM.slices_Sort_int_none Tryz.sortI p cap W)⟩

/-- The places that M knows, rising. -/
def places (n : Nat) (M : Int → Option (List UInt8)) : List Int := ((List.range n).filter fun i : Nat => (M (i : Int)).isSome).map Int.ofNat

theorem sorted_eq {a b : List Int} (ha : a.Pairwise (· ≤ ·)) (hb : b.Pairwise (· ≤ ·)) (na : a.Nodup) (nb : b.Nodup) (h : ∀ x, x ∈ a ↔ x ∈ b) : a = b :=
  List.Perm.eq_of_pairwise (fun x y _ _ h1 h2 => Int.le_antisymm h1 h2) ha hb ((List.perm_ext_iff_of_nodup na nb).2 h)

theorem mem_intKeys {H : Type} {D : DataW H} (h : Canon D) (x : Int) (hk : ∀ es, D = .map es → ∀ p ∈ es, ∃ y, p.1 = .int .i64 y) : x ∈ intKeys D ↔ Maps.has D (.int .i64 x) = true := by
  obtain ⟨es, rfl, hs, _⟩ := h
  rw [has_eq, List.any_eq_true]
  show x ∈ es.map (fun p => Go.intOf p.1) ↔ _
  rw [List.mem_map]
  constructor
  · rintro ⟨p, hp, rfl⟩
    obtain ⟨y, hy⟩ := hk es rfl p hp
    exact ⟨p, hp, by rw [hy]; simp [Go.intOf, Lit.sameKey]⟩
  · rintro ⟨p, hp, he⟩
    obtain ⟨y, hy⟩ := hk es rfl p hp
    refine ⟨p, hp, ?_⟩
    rw [hy] at he ⊢
    simpa [Lit.sameKey, Go.intOf] using he

/-- The keys that came, sorted, are the places. -/
theorem keys_places {b N n : Nat} {D : DataW Unit} {M : Int → Option (List UInt8)} {w : World} (hown : w.ownsMap Tryz.prog 3 secR b N D) (hs : Says D M) (hd : ∀ x l, M x = some l → 0 ≤ x ∧ x < n) (ss : List Int) (hp : ss.Perm (intKeys D)) :
    ss.mergeSort (fun x y => decide (x ≤ y)) = places n M := by
  have hk : ∀ es, D = .map es → ∀ p ∈ es, ∃ y, p.1 = .int .i64 y := by
    obtain ⟨es, clock, hb, F, _, hD⟩ := hown
    intro es' he p hp
    rw [hD] at he
    cases he
    obtain ⟨x, hx, rfl⟩ := List.mem_map.1 (mem_sorted.1 hp)
    obtain ⟨y, hy⟩ := F.reads x hx
    obtain ⟨z, _, hz, _⟩ := Maps.keyOf_i64 Tryz.underlying3 (WideElems.rd_key hy)
    exact ⟨z, by rw [WideElems.rg_of hy]; exact hz⟩
  have hc := hown.canon law
  have hnd : (intKeys D).Nodup := by
    obtain ⟨es, rfl, hpw, _⟩ := hc
    show (es.map fun p => Go.intOf p.1).Nodup
    refine List.pairwise_map.2 ((apart_of_rising hpw).imp_of_mem fun {p q} hp' hq' hne e => hne ?_)
    obtain ⟨a, ha⟩ := hk es rfl p hp'
    obtain ⟨c, hc⟩ := hk es rfl q hq'
    rw [ha, hc] at e ⊢
    exact congrArg _ e
  have tr : ∀ a b c : Int, decide (a ≤ b) = true → decide (b ≤ c) = true → decide (a ≤ c) = true := fun a b c h1 h2 => by simp only [decide_eq_true_eq] at *; omega
  have tot : ∀ a b : Int, (decide (a ≤ b) || decide (b ≤ a)) = true := fun a b => by simp only [Bool.or_eq_true, decide_eq_true_eq]; omega
  refine sorted_eq ((List.pairwise_mergeSort tr tot ss).imp fun h => by simpa using h) ?_ ((List.mergeSort_perm ss _).nodup_iff.2 (hp.nodup_iff.2 hnd)) ?_ fun x => ?_
  · refine List.pairwise_map.2 ((List.Pairwise.sublist List.filter_sublist List.pairwise_lt_range).imp fun {a b} h => ?_)
    simp only [Int.ofNat_eq_natCast]; omega
  · refine List.pairwise_map.2 ((List.Pairwise.sublist List.filter_sublist List.pairwise_lt_range).imp fun {a b} h => ?_)
    simp only [Int.ofNat_eq_natCast, ne_eq]; omega
  · rw [(List.mergeSort_perm ss _).mem_iff, hp.mem_iff, mem_intKeys hc x hk, hs.has]
    simp only [places, List.mem_map, List.mem_filter, List.mem_range, Int.ofNat_eq_natCast]
    constructor
    · intro h
      obtain ⟨l, hl⟩ := Option.isSome_iff_exists.1 h
      obtain ⟨h0, h1⟩ := hd x l hl
      exact ⟨x.toNat, ⟨by omega, by rw [show ((x.toNat : Nat) : Int) = x by omega]; exact h⟩, by omega⟩
    · rintro ⟨i, ⟨_, h⟩, rfl⟩
      exact h

set_option maxHeartbeats 1000000 in
/-- The call's result: a row of its own that holds the places. -/
theorem dLoose (d m s b N : Nat) (S : List (List UInt8)) (M : Int → Option (List UInt8)) (w : World) (h : IsD d m s b N S M w) :
    Calls Tryz.prog 41 #[.pointer (some ⟨d, 0, none⟩)] w fun e w' => ∃ v, e = .returned v ∧
      w'.ownsRow w.heap.size 3 1 v (places S.length M).length ((places S.length M).map encZ) ∧ KeptIn (· < w.heap.size) w w' := by
  refine (callsIn_wide (n := 6)).1 ?_
  obtain ⟨D, hown, hsay⟩ := h.map
  have hdom := h.dom
  have hbl := hown.lt
  have c2 := h.c2
  have hm := h.max
  have hsz : Maps.size D ≤ 16384 := by
    have he := keys_places hown hsay hdom (intKeys D) (List.Perm.refl _)
    have hl : (intKeys D).length = (places S.length M).length := by rw [← he, List.length_mergeSort]
    have hp : (places S.length M).length ≤ S.length := by
      have := List.length_filter_le (fun i : Nat => (M (i : Int)).isSome) (List.range S.length)
      simp only [places, List.length_map]
      rwa [List.length_range] at this
    obtain ⟨es, rfl, _⟩ := hown.canon law
    have : (intKeys (DataW.map es : DataW Unit)).length = Maps.size (DataW.map es : DataW Unit) := by simp [intKeys, Maps.size]
    omega
  have hseq : SeqGives Fence.wide 2 Tryz.prog 102 #[.pointer (some ⟨w.heap.size, 0, none⟩)] encZ (fun ss => ss.Perm (intKeys D)) (Maps.size D) (w.alloc (.cells #[.map (some b)] 95)) :=
    AnyZI.keys_gives (ρ := Tryz.keysD_ren) { Tryz.keysD with } Fence.wide _ trivial rfl (by omega) w.heap.size b N D _ (by simp) (by simp) (ownsMap_block hown (Lib.alloc_old _ _ _ hbl))
  have cK : ∀ mb W, CallsIn Fence.wide 5 Tryz.prog 73 #[.map mb] W fun e w' => e = .returned (.func (.func 102) #[] #[.pointer (some ⟨W.heap.size, 0, none⟩)]) ∧ w' = W.alloc (.cells #[.map mb] 95) := fun mb W => AnyZI.keys_in Tryz.keysD Fence.wide 5 trivial rfl mb W
  have cS := AnyZI.sorted_in Tryz.sortedI Fence.wide 5 trivial trivial trivial trivial rfl (by omega) (sortsI _) (enters_of Tryz.func101 (by kernel_rfl) rfl) 102 #[.pointer (some ⟨w.heap.size, 0, none⟩)] trivial (enters_of Tryz.func102 (by kernel_rfl) rfl) _ _ (by unfold maxLen; omega) (by omega) _ hseq
  change CallsIn _ _ Tryz.prog 72 _ _ _ at cS
  have hfK : Fence.wide.fn 73 := trivial
  have hfS : Fence.wide.fn 72 := trivial
  clear h
  refine callsIn_of_wp Tryz.func41 rfl trivial ?_ rfl
  simp only [Tryz.ntmps41, List.size_toArray, List.length_cons, List.length_nil, Nat.reduceAdd, Nat.reduceSub, Array.replicate_succ, Array.replicate_zero, List.push_toArray, List.append_toArray, List.nil_append, List.cons_append]
  gi_wp2_with (first
    | (gi_at_call 73; refine (cK _ _).mono ?_; rintro e w' ⟨rfl, rfl⟩)
    | (gi_at_call 72; refine cS.mono ?_; rintro e w' ⟨v, ss, rfl, hS, hrow, hnil, hb⟩))
  go_ret
  have he := keys_places hown hsay hdom ss hS
  have hl : ss.length = (places S.length M).length := by rw [← he, List.length_mergeSort]
  rw [he, hl] at hrow
  refine ⟨v, rfl, ownsRow_base_a hrow (by simp), ?_⟩
  exact KeptIn.of_below (((Below.refl _ w).alloc (Nat.le_refl _) _).trans (hb.mono (by simp))) (fun _ h => h)

theorem dLooseNil (w : World) : Calls Tryz.prog 41 #[.pointer none] w fun e w' => e = .returned (.slice none 0 0) ∧ w = w' := by
  go_enter Tryz.func41, Tryz.ntmps41
  go_wp2
  go_ret
  exact ⟨rfl, rfl⟩

end Go.Proofs.YtefompndoopceaaGreatDoor
/- disc's Settle. -/
set_option linter.unusedVariables false
namespace Go.Proofs.YtefompndoopceaaGreatDoor
open Go.RowKit Go.Maps

/-- The i-th bit of keep; behind its last byte the first comes again. -/
def keepBit (l : List UInt8) (i : Nat) : Bool := !l.isEmpty && (l.getD (i / 8 % l.length) 0).toNat / 2 ^ (i % 8) % 2 == 1

/-- The loose sectors, one behind the other: those whose bits are one are safe from then on. -/
def settle (keep : List UInt8) (M : Int → Option (List UInt8)) : List Int → Nat → List (List UInt8) → List (List UInt8)
  | [], _, S => S
  | k :: r, i, S => settle keep M r (i + 1) (if keepBit keep i then S.set k.toNat ((M k).getD []) else S)

theorem settle_length (keep : List UInt8) (M : Int → Option (List UInt8)) : ∀ (ks : List Int) (i : Nat) (S : List (List UInt8)), (settle keep M ks i S).length = S.length
  | [], _, _ => rfl
  | k :: r, i, S => by
    rw [settle, settle_length keep M r (i + 1)]
    split <;> simp

theorem mem_places {n : Nat} {M : Int → Option (List UInt8)} {k : Int} (h : k ∈ places n M) : 0 ≤ k ∧ k < n ∧ (M k).isSome = true := by
  simp only [places, List.mem_map, List.mem_filter, List.mem_range, Int.ofNat_eq_natCast] at h
  obtain ⟨i, ⟨h1, h2⟩, rfl⟩ := h
  exact ⟨by omega, by omega, h2⟩

set_option maxRecDepth 100000 in
theorem dStays (l : List UInt8) (i : Nat) (w : World) (hl : l.length ≤ maxLen) (hi : i ≤ 16384) :
    Calls Tryz.prog 71 #[.string ⟨l.toArray⟩, .int .i64 i] w fun e w' => e = .returned (.bool (keepBit l i)) ∧ w = w' := by
  unfold maxLen at hl
  cases l with
  | nil =>
    have hk : keepBit [] i = false := rfl
    rw [hk]
    clear hl hi hk
    go_enter Tryz.func71, Tryz.ntmps71
    go_wp2
    go_ret
    exact ⟨rfl, rfl⟩
  | cons x r =>
    have hlen : ((x :: r).length : Int) ≤ 9223372036854775807 := by omega
    have hpos : (0 : Int) < ((x :: r).length : Int) := by simp
    obtain ⟨l, hl0⟩ : ∃ l, x :: r = l := ⟨_, rfl⟩
    have hemp : (l == []) = false := by rw [← hl0]; rfl
    have hie : l.isEmpty = false := by rw [← hl0]; rfl
    rw [hl0] at hlen hpos ⊢
    clear hl0 hl
    have b0 : (0 : Int) ≤ (i : Int) := by omega
    have b1 : (i : Int) ≤ 16384 := by omega
    have b2 : (0 : Int) ≤ (i : Int) / 8 % (l.length : Int) := Int.emod_nonneg _ (by omega)
    have b3 : (i : Int) / 8 % (l.length : Int) < (l.length : Int) := Int.emod_lt_of_pos _ hpos
    have hlt : i / 8 % l.length < l.length := Nat.mod_lt _ (by omega)
    have HB : Hid ((bits BinOp.and IntKind.u8 (((l[i / 8 % l.length]'hlt).toNat : Int) / 2 ^ (i % 8)) 1 == 1) = keepBit l i) := Lib.hid (by
      have hx : (((l[i / 8 % l.length]'hlt).toNat : Nat) : Int) / 2 ^ (i % 8) = (((l[i / 8 % l.length]'hlt).toNat / 2 ^ (i % 8) : Nat) : Int) := by simp
      have hlt2 : (l[i / 8 % l.length]'hlt).toNat / 2 ^ (i % 8) < 256 := Nat.lt_of_le_of_lt (Nat.div_le_self _ _) (UInt8.toNat_lt _)
      have h1 := u8_and_nat ((l[i / 8 % l.length]'hlt).toNat / 2 ^ (i % 8)) 1 hlt2 (by decide)
      rw [Nat.and_one_is_mod] at h1
      rw [hx]
      unfold keepBit
      rw [hie, List.getD_eq_getElem?_getD, List.getElem?_eq_getElem hlt, show (1 : Int) = ((1 : Nat) : Int) from rfl, h1]
      simp only [Option.getD_some, Bool.not_false, Bool.true_and]
      rw [Bool.eq_iff_iff]
      simp only [beq_iff_eq]
      omega)
    clear hie
    go_enter Tryz.func71, Tryz.ntmps71
    go_wp2
    go_ret
    exact ⟨congrArg (fun v => Ending.returned (Value.bool v)) HB.out, rfl⟩

theorem dSettleNil (s : ByteArray) (w : World) : Calls Tryz.prog 39 #[.pointer none, .string s] w fun e w' => e = .returned (.int .i64 2) ∧ w = w' := by
  go_enter Tryz.func39, Tryz.ntmps39
  go_wp2
  go_ret
  exact ⟨rfl, rfl⟩

theorem dSettleOn (d m s b N : Nat) (p : Pw) (S : List (List UInt8)) (M : Int → Option (List UInt8)) (l : List UInt8) (w : World) (h : IsD d m s b N S M w) (hp : IsP m p w) (hon : p.on = true) :
    Calls Tryz.prog 39 #[.pointer (some ⟨d, 0, none⟩), .string ⟨l.toArray⟩] w fun e w' => e = .returned (.int .i64 11) ∧ w = w' := by
  have c0 := h.c0
  have hm := hp.1
  rw [hon] at hm
  have HM := Lib.hid hm
  clear h hp hon hm
  go_enter Tryz.func39, Tryz.ntmps39
  go_wp2_with (go_at_call 70; refine (mOn _ _ _ _ _ _ HM.out).mono ?_)
  rintro e w' ⟨rfl, rfl⟩
  go_wp2
  go_ret
  exact ⟨rfl, rfl⟩

/-- Between two rounds of Settle's loop. -/
structure Settled (w : World) (d m s b N : Nat) (S : List (List UInt8)) (M : Int → Option (List UInt8)) (keep : List UInt8) (ps : List Int) (j : Nat) (S' : List (List UInt8)) (W : World) : Prop where
  isD : IsD d m s b N S' M W
  len : S'.length = S.length
  run : settle keep M (ps.drop j) j S' = settle keep M ps 0 S
  kept : KeptIn (fun k => k < w.heap.size ∧ k ≠ s) w W

set_option maxHeartbeats 1000000 in
set_option maxRecDepth 100000 in
theorem dSettle (d m s b N : Nat) (p : Pw) (S : List (List UInt8)) (M : Int → Option (List UInt8)) (l : List UInt8) (w : World) (h : IsD d m s b N S M w) (hp : IsP m p w) (hoff : p.on = false) (hl : l.length ≤ maxLen) :
    Calls Tryz.prog 39 #[.pointer (some ⟨d, 0, none⟩), .string ⟨l.toArray⟩] w fun e w' => e = .returned (.int .i64 0) ∧ IsD d m s b 0 (settle l M (places S.length M) 0 S) (fun _ => none) w' ∧ KeptIn (fun k => k < w.heap.size ∧ k ≠ s ∧ k ≠ b) w w' := by
  have c0 := h.c0
  have hm := hp.1
  rw [hoff] at hm
  have HM := Lib.hid hm
  have hmax := h.max
  have HD := Lib.hid h; have HL := Lib.hid hl
  clear h hp hoff hm hl
  obtain ⟨ps, hps⟩ : ∃ ps, places S.length M = ps := ⟨_, rfl⟩
  rw [hps]
  have hpn : ps.length ≤ S.length := by
    have := List.length_filter_le (fun i : Nat => (M (i : Int)).isSome) (List.range S.length)
    rw [← hps]
    simp only [places, List.length_map]
    rwa [List.length_range] at this
  have HPS : Hid (places S.length M = ps ∧ ps.length ≤ 16384) := Lib.hid ⟨hps, by omega⟩
  have CL := Lib.hid (dLoose d m s b N S M w HD.out)
  rw [hps] at CL
  clear hps hpn hmax
  go_enter Tryz.func39, Tryz.ntmps39
  go_wp2_with (go_at_call 70; refine (mOn _ _ _ _ _ _ HM.out).mono ?_)
  rintro e w' ⟨rfl, rfl⟩
  go_wp2_with (go_at_call 41; refine CL.out.mono ?_)
  rintro e w1 ⟨v, rfl, hrow, hk1⟩
  obtain ⟨a0, cap, rfl, hel⟩ : ∃ a0 cap, v = .slice a0 ps.length cap ∧ (0 < ps.length → ∃ g, a0 = some ⟨g, 0, none⟩ ∧ w.heap.size ≤ g ∧ g < w1.heap.size ∧ ps.length ≤ cap ∧ ∀ j k, ps[j]? = some k → w1.cell? ⟨g, j, none⟩ = some (.int .i64 k)) := by
    rcases hrow.2 with ⟨rfl, h0⟩ | ⟨g, cap, cur, rfl, hg, hb, hc, _, _, ht⟩
    · exact ⟨none, 0, by rw [h0], fun h => absurd h0 (by omega)⟩
    · refine ⟨_, cap, rfl, fun _ => ⟨g, rfl, hg, (Array.getElem?_eq_some_iff.1 hb).1, hc, fun j k hj => ?_⟩⟩
      rw [cell_of_row w1 g j _ _ _ hb]
      have h1 : (cur.toList.take (ps.length * 1))[j]? = some (.int .i64 k) := by rw [ht]; simp [hj]
      rw [List.getElem?_take] at h1
      split at h1
      · simpa using h1
      · cases h1
  have HEL := Lib.hid hel
  have HJ0 : Hid (Settled w1 d m s b N S M l ps 0 S w1 ∧ KeptIn (· < w.heap.size) w w1) := Lib.hid ⟨⟨HD.out.kept hk1 HD.out.ltd HD.out.lts HD.out.ltb, rfl, rfl, .refl _ _⟩, hk1⟩
  clear hrow hk1 hel c0 HM CL
  obtain ⟨n, hn⟩ : ∃ n, ps.length = n := ⟨_, rfl⟩
  rw [hn] at HEL
  rw [hn]
  have HN : Hid (ps.length = n ∧ n ≤ 16384) := Lib.hid ⟨hn, by rw [← hn]; exact HPS.out.2⟩
  have hnn : (n : Int) ≤ 16384 := by have := HN.out.2; omega
  have HK0 : Hid (KeptIn (· < w.heap.size) w w1) := Lib.hid HJ0.out.2
  have HS0 : Hid (Settled w1 d m s b N S M l ps 0 S w1) := Lib.hid HJ0.out.1
  clear hn HJ0
  go_wp2_with fail
  go_loopw [17] (fun c wr => ∃ (j : Nat) (S' : List (List UInt8)) (W : World), W = wr ∧ j ≤ n ∧ c = .int .i64 j ∧ Hid (Settled w1 d m s b N S M l ps j S' W)) (fun c _ => n - (RowKit.intOf c).toNat)
  case atStart => exact ⟨0, S, w1, rfl, Nat.zero_le _, rfl, HS0⟩
  case round =>
    obtain ⟨j, S', W, rfl, hj, rfl, HJ⟩ := hrel
    clear HS0
    by_cases hlt : j < n
    · have b0 : (0 : Int) ≤ (j : Int) := by omega
      have b1 : (j : Int) < (n : Int) := by omega
      obtain ⟨g, rfl, hgw, hg1, hcap, hcell⟩ := HEL.out (by omega)
      have hjl : j < ps.length := by rw [HN.out.1]; exact hlt
      have hmem : ps[j] ∈ places S.length M := by rw [HPS.out.1]; exact List.getElem_mem hjl
      obtain ⟨hx0, hx1, hxs⟩ := mem_places hmem
      obtain ⟨k, hk⟩ : ∃ k : Nat, ps[j] = (k : Int) := ⟨ps[j].toNat, by omega⟩
      rw [hk] at hx1 hxs
      obtain ⟨c, hc⟩ := Option.isSome_iff_exists.1 hxs
      have hsg : s < g := Nat.lt_of_lt_of_le HD.out.lts hgw
      have cg : W.cell? ⟨g, j, none⟩ = some (.int .i64 (k : Int)) := (World.cell?_of_block (a := ⟨g, j, none⟩) (HJ.out.kept.block g ⟨hg1, by omega⟩)).trans (hcell j k (by rw [List.getElem?_eq_getElem hjl, hk]))
      have hdrop : ps.drop j = (k : Int) :: ps.drop (j + 1) := by rw [List.drop_eq_getElem_cons hjl, hk]
      have hrun := HJ.out.run
      rw [hdrop, settle] at hrun
      have HX : Hid (M (k : Int) = some c ∧ k < S.length) := Lib.hid ⟨hc, by omega⟩
      have HRUN := Lib.hid hrun
      clear hcell hmem hx0 hx1 hxs hk hc hdrop hrun hjl
      have CB := Lib.hid (dStays l j W HL.out (by have := HN.out.2; omega))
      cases hkb : keepBit l j with
      | false =>
        rw [hkb] at CB HRUN
        have HJ2 : Hid (Settled w1 d m s b N S M l ps (j + 1) S' W) := Lib.hid ⟨HJ.out.isD, HJ.out.len, by have := HRUN.out; simpa using this, HJ.out.kept⟩
        clear HJ HRUN HX hkb
        go_wp2_with (go_at_call 71; refine CB.out.mono ?_)
        rintro e w' ⟨rfl, rfl⟩
        clear CB
        go_wp2_with fail
        go_roundw
        case rel => exact ⟨j + 1, S', W, rfl, by omega, by go_num, HJ2⟩
        case measure => simp [RowKit.intOf]; omega
      | true =>
        rw [hkb] at CB HRUN
        clear hkb
        have hD := HJ.out.isD
        have hlen : S'.length = S.length := HJ.out.len
        have hkn : k < S'.length := by rw [hlen]; exact HX.out.2
        have k0 : (0 : Int) ≤ (k : Int) := by omega
        have k1 : (k : Int) < (S'.length : Int) := by omega
        have hc16 : c.length = 16 := by
          obtain ⟨D, _, hs⟩ := hD.map
          exact hs.len _ _ HX.out.1
        obtain ⟨cs, hcs⟩ : ∃ cs, Lib.byteCells c = cs := ⟨_, rfl⟩
        have hl16 : cs.length = 16 := by rw [← hcs, Lib.byteCells_length, hc16]
        have hu := Tryz.underlying118
        have hi : (Tryz.prog.info? 118).map (·.size) = some cs.length := by rw [← hcs]; exact secSizeL hc16
        have h1 : ∀ v ∈ cs, v.oneCell' = true := by rw [← hcs]; exact Lib.byteCells_one _
        have HLK : Hid (∀ V, V.heap[b]? = W.heap[b]? → (Instr.lookup 95 (.map (some b)) (.int .i64 (k : Int)) false).run Tryz.prog V = .ok (.agg cs.toArray) V) := Lib.hid fun V hV => by
          rw [((hD.map.block hV).look (k : Int) (WalkArith.wf_i64 (by have := hD.max; omega))).2, HX.out.1, ← hcs]
          rfl
        have c1 := hD.c1; have c2 := hD.c2
        have TH := Lib.hid (hD.there k hkn)
        have HDD := Lib.hid hD
        have hds := hD.ne_ds; have hbs := hD.ne_sb.symm
        have C1 := Lib.hid c1; have C2 := Lib.hid c2; have HCS := Lib.hid hcs; have HC16 := Lib.hid hc16
        have HLE := Lib.hid hlen
        clear hD hkn hcs hc16 hlen
        obtain ⟨n', hn'⟩ : ∃ n', S'.length = n' := ⟨_, rfl⟩
        rw [hn'] at C1 c1 k1
        go_wp2_with (go_at_call 71; refine CB.out.mono ?_; rintro e w' ⟨rfl, rfl⟩)
        go_region_held3 (fun w' => w'.cell? ⟨d, 1, none⟩ = some (.slice (some ⟨s, 0, none⟩) n' n') ∧ w'.cell? ⟨d, 2, none⟩ = some (.map (some b)) ∧ w'.there s (k * 16) 16 ∧ (Instr.lookup 95 (.map (some b)) (.int .i64 (k : Int)) false).run Tryz.prog w' = .ok (.agg cs.toArray) w')
          (first | exact ⟨C1.out, C2.out, TH.out, HLK.out _ rfl⟩ | exact ⟨(World.cell?_of_block (a := ⟨d, 1, none⟩) (heap_setCells_other s cs _ _ d hds)).trans C1.out, (World.cell?_of_block (a := ⟨d, 2, none⟩) (heap_setCells_other s cs _ _ d hds)).trans C2.out, World.there_setCells (w := W.drew) TH.out _ _ _, HLK.out _ (heap_setCells_other s cs _ _ b hbs)⟩)
          (fail)
        have hkd : KeptIn (· ≠ s) W (W.drew.setCells s (k * 16) cs) := ((KeptIn.refl _ W).drew).setCells (by simp) _ _
        have HJ2 : Hid (Settled w1 d m s b N S M l ps (j + 1) (S'.set k c) (W.drew.setCells s (k * 16) cs)) := by
          refine Lib.hid ⟨?_, by rw [List.length_set]; exact HLE.out, ?_, HJ.out.kept.trans (hkd.mono fun i hi => hi.2)⟩
          · rw [← HCS.out]
            exact (HDD.out.kept (w' := W.drew) ((KeptIn.refl (fun _ => True) W).drew) trivial trivial trivial).put k (by have := HLE.out; have := HX.out.2; omega) _ HC16.out
          · have := HRUN.out
            rw [HX.out.1] at this
            simpa using this
        clear hkd HJ HRUN HX HDD HCS HC16 HLE HLK TH C1 C2 c1 c2 hds hbs hl16 hi hu h1 k0 k1 CB cg
        go_wp2_with fail
        go_roundw
        case rel => exact ⟨j + 1, _, _, rfl, by omega, by go_num, HJ2⟩
        case measure => simp [RowKit.intOf]; omega
    · obtain rfl : j = n := by omega
      have hr := HJ.out.run
      rw [List.drop_of_length_le (by rw [HN.out.1]; exact Nat.le_refl _), settle] at hr
      have HE : Hid (IsD d m s b N (settle l M ps 0 S) M W ∧ KeptIn (fun k => k < w1.heap.size ∧ k ≠ s) w1 W) := Lib.hid ⟨by rw [← hr]; exact HJ.out.isD, HJ.out.kept⟩
      clear hr HJ
      have c2 := HE.out.1.c2
      go_wp2_with (refine wpList_clear_sec rfl _ rfl b N M rfl HE.out.1.map ?_)
      intro w3 hm3 hk3 hz3
      go_wp2
      go_ret
      have hD := HE.out.1
      refine ⟨rfl, ⟨(hk3.block d hD.ne_db).trans hD.hd, (hk3.block s hD.ne_sb).trans hD.hs, hm3, hD.len, hD.max, fun _ _ h => (by cases h)⟩, ?_⟩
      exact ((HK0.out.mono fun k hk => hk.1).trans (HE.out.2.mono fun k hk => ⟨Nat.lt_of_lt_of_le hk.1 HK0.out.size, hk.2.1⟩)).trans (hk3.mono fun k hk => hk.2.2)

end Go.Proofs.YtefompndoopceaaGreatDoor
