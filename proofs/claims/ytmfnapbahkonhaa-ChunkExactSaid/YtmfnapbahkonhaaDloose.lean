/- disc's Loose: the places of the map, rising. -/
import Derived.Test.YtmfnapbahkonhaaShelf
import Derived.Test.YtmfnapbahkonhaaDisc
import Derived.WalkKit
import Derived.OwnWalkIn
import Derived.TacticsInMore
import Derived.CallsIn
set_option linter.unusedVariables false
namespace Go.Proofs.Ytmfnapbahkonhaa
open Go.RowKit Go.Maps Go.Sort

theorem sortsI (m : Nat) : AnyZI.SortsIn Try.prog Try.sortedI_ren Fence.wide m :=
  ⟨fun blk off cap ss W hH hblk hsz => callsIn_wide.2 (AnyM.slices_Sort_int Try.sortI blk off cap ss W hH hblk hsz),
   fun p cap W => callsIn_wide.2 (AnyM.slices_Sort_int_none Try.sortI p cap W)⟩

/-- The places that M knows, rising. -/
def places (n : Nat) (M : Int → Option (List UInt8)) : List Int := ((List.range n).filter fun i : Nat => (M (i : Int)).isSome).map Int.ofNat

theorem sorted_eq {a b : List Int} (ha : a.Pairwise (· ≤ ·)) (hb : b.Pairwise (· ≤ ·)) (na : a.Nodup) (nb : b.Nodup) (h : ∀ x, x ∈ a ↔ x ∈ b) : a = b :=
  List.Perm.eq_of_pairwise (fun x y _ _ h1 h2 => Int.le_antisymm h1 h2) ha hb ((List.perm_ext_iff_of_nodup na nb).2 h)

theorem mem_intKeys {H : Type} {D : DataW H} (h : Canon D) (x : Int) (hk : ∀ es, D = .map es → ∀ p ∈ es, ∃ y, p.1 = .int .i64 y) : x ∈ intKeys D ↔ Maps.has D (.int .i64 x) = true := by
  obtain ⟨es, rfl, hs, _⟩ := h
  rw [has_eq, List.any_eq_true]
  show x ∈ es.map (fun p => Go.intOf p.1) ↔ _
  rw [List.mem_map]
  constructor
  · rintro ⟨p, hp, rfl⟩
    obtain ⟨y, hy⟩ := hk es rfl p hp
    exact ⟨p, hp, by rw [hy]; simp [Go.intOf, Lit.sameKey]⟩
  · rintro ⟨p, hp, he⟩
    obtain ⟨y, hy⟩ := hk es rfl p hp
    refine ⟨p, hp, ?_⟩
    rw [hy] at he ⊢
    simpa [Lit.sameKey, Go.intOf] using he

/-- The keys that came, sorted, are the places. -/
theorem keys_places {b N n : Nat} {D : DataW Unit} {M : Int → Option (List UInt8)} {w : World} (hown : w.ownsMap Try.prog 3 secR b N D) (hs : Says D M) (hd : ∀ x l, M x = some l → 0 ≤ x ∧ x < n) (ss : List Int) (hp : ss.Perm (intKeys D)) :
    ss.mergeSort (fun x y => decide (x ≤ y)) = places n M := by
  have hk : ∀ es, D = .map es → ∀ p ∈ es, ∃ y, p.1 = .int .i64 y := by
    obtain ⟨es, clock, hb, F, _, hD⟩ := hown
    intro es' he p hp
    rw [hD] at he
    cases he
    obtain ⟨x, hx, rfl⟩ := List.mem_map.1 (mem_sorted.1 hp)
    obtain ⟨y, hy⟩ := F.reads x hx
    obtain ⟨z, _, hz, _⟩ := Maps.keyOf_i64 Try.underlying3 (WideElems.rd_key hy)
    exact ⟨z, by rw [WideElems.rg_of hy]; exact hz⟩
  have hc := hown.canon law
  have hnd : (intKeys D).Nodup := by
    obtain ⟨es, rfl, hpw, _⟩ := hc
    show (es.map fun p => Go.intOf p.1).Nodup
    refine List.pairwise_map.2 ((apart_of_rising hpw).imp_of_mem fun {p q} hp' hq' hne e => hne ?_)
    obtain ⟨a, ha⟩ := hk es rfl p hp'
    obtain ⟨c, hc⟩ := hk es rfl q hq'
    rw [ha, hc] at e ⊢
    exact congrArg _ e
  have tr : ∀ a b c : Int, decide (a ≤ b) = true → decide (b ≤ c) = true → decide (a ≤ c) = true := fun a b c h1 h2 => by simp only [decide_eq_true_eq] at *; omega
  have tot : ∀ a b : Int, (decide (a ≤ b) || decide (b ≤ a)) = true := fun a b => by simp only [Bool.or_eq_true, decide_eq_true_eq]; omega
  refine sorted_eq ((List.pairwise_mergeSort tr tot ss).imp fun h => by simpa using h) ?_ ((List.mergeSort_perm ss _).nodup_iff.2 (hp.nodup_iff.2 hnd)) ?_ fun x => ?_
  · refine List.pairwise_map.2 ((List.Pairwise.sublist List.filter_sublist List.pairwise_lt_range).imp fun {a b} h => ?_)
    simp only [Int.ofNat_eq_natCast]; omega
  · refine List.pairwise_map.2 ((List.Pairwise.sublist List.filter_sublist List.pairwise_lt_range).imp fun {a b} h => ?_)
    simp only [Int.ofNat_eq_natCast, ne_eq]; omega
  · rw [(List.mergeSort_perm ss _).mem_iff, hp.mem_iff, mem_intKeys hc x hk, hs.has]
    simp only [places, List.mem_map, List.mem_filter, List.mem_range, Int.ofNat_eq_natCast]
    constructor
    · intro h
      obtain ⟨l, hl⟩ := Option.isSome_iff_exists.1 h
      obtain ⟨h0, h1⟩ := hd x l hl
      exact ⟨x.toNat, ⟨by omega, by rw [show ((x.toNat : Nat) : Int) = x by omega]; exact h⟩, by omega⟩
    · rintro ⟨i, ⟨_, h⟩, rfl⟩
      exact h

set_option maxHeartbeats 1000000 in
/-- The call's result: a row of its own that holds the places. -/
theorem dLoose (d m s b N : Nat) (S : List (List UInt8)) (M : Int → Option (List UInt8)) (w : World) (h : IsD d m s b N S M w) :
    Calls Try.prog 26 #[.pointer (some ⟨d, 0, none⟩)] w fun e w' => ∃ v, e = .returned v ∧
      w'.ownsRow w.heap.size 3 1 v (places S.length M).length ((places S.length M).map encZ) ∧ KeptIn (· < w.heap.size) w w' := by
  refine (callsIn_wide (n := 6)).1 ?_
  obtain ⟨D, hown, hsay⟩ := h.map
  have hdom := h.dom
  have hbl := hown.lt
  have c2 := h.c2
  have hm := h.max
  have hsz : Maps.size D ≤ 16384 := by
    have he := keys_places hown hsay hdom (intKeys D) (List.Perm.refl _)
    have hl : (intKeys D).length = (places S.length M).length := by rw [← he, List.length_mergeSort]
    have hp : (places S.length M).length ≤ S.length := by
      have := List.length_filter_le (fun i : Nat => (M (i : Int)).isSome) (List.range S.length)
      simp only [places, List.length_map]
      rwa [List.length_range] at this
    obtain ⟨es, rfl, _⟩ := hown.canon law
    have : (intKeys (DataW.map es : DataW Unit)).length = Maps.size (DataW.map es : DataW Unit) := by simp [intKeys, Maps.size]
    omega
  have hseq : SeqGives Fence.wide 2 Try.prog 57 #[.pointer (some ⟨w.heap.size, 0, none⟩)] encZ (fun ss => ss.Perm (intKeys D)) (Maps.size D) (w.alloc (.cells #[.map (some b)] 70)) :=
    AnyZI.keys_gives (ρ := Try.keysD_ren) { Try.keysD with } Fence.wide _ trivial rfl (by omega) w.heap.size b N D _ (by simp) (by simp) (ownsMap_block hown (Lib.alloc_old _ _ _ hbl))
  have cK : ∀ mb W, CallsIn Fence.wide 5 Try.prog 47 #[.map mb] W fun e w' => e = .returned (.func (.func 57) #[] #[.pointer (some ⟨W.heap.size, 0, none⟩)]) ∧ w' = W.alloc (.cells #[.map mb] 70) := fun mb W => AnyZI.keys_in Try.keysD Fence.wide 5 trivial rfl mb W
  have cS := AnyZI.sorted_in Try.sortedI Fence.wide 5 trivial trivial trivial trivial rfl (by omega) (sortsI _) (enters_of Try.func56 (by kernel_rfl) rfl) 57 #[.pointer (some ⟨w.heap.size, 0, none⟩)] trivial (enters_of Try.func57 (by kernel_rfl) rfl) _ _ (by unfold maxLen; omega) (by omega) _ hseq
  change CallsIn _ _ Try.prog 46 _ _ _ at cS
  have hfK : Fence.wide.fn 47 := trivial
  have hfS : Fence.wide.fn 46 := trivial
  clear h
  refine callsIn_of_wp Try.func26 rfl trivial ?_ rfl
  simp only [Try.ntmps26, List.size_toArray, List.length_cons, List.length_nil, Nat.reduceAdd, Nat.reduceSub, Array.replicate_succ, Array.replicate_zero, List.push_toArray, List.append_toArray, List.nil_append, List.cons_append]
  gi_wp2_with (first
    | (gi_at_call 47; refine (cK _ _).mono ?_; rintro e w' ⟨rfl, rfl⟩)
    | (gi_at_call 46; refine cS.mono ?_; rintro e w' ⟨v, ss, rfl, hS, hrow, hnil, hb⟩))
  go_ret
  have he := keys_places hown hsay hdom ss hS
  have hl : ss.length = (places S.length M).length := by rw [← he, List.length_mergeSort]
  rw [he, hl] at hrow
  refine ⟨v, rfl, ownsRow_base_a hrow (by simp), ?_⟩
  exact KeptIn.of_below (((Below.refl _ w).alloc (Nat.le_refl _) _).trans (hb.mono (by simp))) (fun _ h => h)

theorem dLooseNil (w : World) : Calls Try.prog 26 #[.pointer none] w fun e w' => e = .returned (.slice none 0 0) ∧ w = w' := by
  go_enter Try.func26, Try.ntmps26
  go_wp2
  go_ret
  exact ⟨rfl, rfl⟩

end Go.Proofs.Ytmfnapbahkonhaa
