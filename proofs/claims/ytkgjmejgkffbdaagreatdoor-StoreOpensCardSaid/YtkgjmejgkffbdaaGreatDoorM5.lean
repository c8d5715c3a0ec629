import Derived.Test.YtkgjmejgkffbdaaGreatDoorShelf
import Derived.Test.YtkgjmejgkffbdaaGreatDoorM3
import Derived.WalkKit
import Derived.OwnWalkIn
import Derived.TacticsInMore
import Derived.CallsIn
/- disc's Loose: the places of the map, rising. -/
set_option linter.unusedVariables false
namespace Go.Proofs.YtkgjmejgkffbdaaGreatDoor
open Go.RowKit Go.Maps Go.Sort

theorem sortsI (m : Nat) : AnyZI.SortsIn Tryz.prog Tryz.sortedI_ren Fence.wide m :=
  ⟨fun blk off cap ss W hH hblk hsz => callsIn_wide.2 (AnyM.slices_Sort_int Tryz.sortI blk off cap ss W hH hblk hsz),
   fun p cap W => callsIn_wide.2 (AnyM.slices_Sort_int_none Tryz.sortI p cap W)⟩

/-- The places that M knows, rising. -/
def places (n : Nat) (M : Int → Option (List UInt8)) : List Int := ((List.range n).filter fun i : Nat => (M (i : Int)).isSome).map Int.ofNat

theorem sorted_eq {a b : List Int} (ha : a.Pairwise (· ≤ ·)) (hb : b.Pairwise (· ≤ ·)) (na : a.Nodup) (nb : b.Nodup) (h : ∀ x, x ∈ a ↔ x ∈ b) : a = b :=
  List.Perm.eq_of_pairwise (fun x y _ _ h1 h2 => Int.le_antisymm h1 h2) ha hb ((List.perm_ext_iff_of_nodup na nb).2 h)

theorem mem_intKeys {H : Type} {D : DataW H} (h : Canon D) (x : Int) (hk : ∀ es, D = .map es → ∀ p ∈ es, ∃ y, p.1 = .int .i64 y) : x ∈ intKeys D ↔ Maps.has D (.int .i64 x) = true := by
  obtain ⟨es, rfl, hs, _⟩ := h
  rw [has_eq, List.any_eq_true]
  show x ∈ es.map (fun p => Go.intOf p.1) ↔ _
  rw [List.mem_map]
  constructor
  · rintro ⟨p, hp, rfl⟩
    obtain ⟨y, hy⟩ := hk es rfl p hp
    exact ⟨p, hp, by rw [hy]; simp [Go.intOf, Lit.sameKey]⟩
  · rintro ⟨p, hp, he⟩
    obtain ⟨y, hy⟩ := hk es rfl p hp
    refine ⟨p, hp, ?_⟩
    rw [hy] at he ⊢
    simpa [Lit.sameKey, Go.intOf] using he

/-- The keys that came, sorted, are the places. -/
theorem keys_places {b N n : Nat} {D : DataW Unit} {M : Int → Option (List UInt8)} {w : World} (hown : w.ownsMap Tryz.prog 3 secR b N D) (hs : Says D M) (hd : ∀ x l, M x = some l → 0 ≤ x ∧ x < n) (ss : List Int) (hp : ss.Perm (intKeys D)) :
    ss.mergeSort (fun x y => decide (x ≤ y)) = places n M := by
  have hk : ∀ es, D = .map es → ∀ p ∈ es, ∃ y, p.1 = .int .i64 y := by
    obtain ⟨es, clock, hb, F, _, hD⟩ := hown
    intro es' he p hp
    rw [hD] at he
    cases he
    obtain ⟨x, hx, rfl⟩ := List.mem_map.1 (mem_sorted.1 hp)
    obtain ⟨y, hy⟩ := F.reads x hx
    obtain ⟨z, _, hz, _⟩ := Maps.keyOf_i64 Tryz.underlying3 (WideElems.rd_key hy)
    exact ⟨z, by rw [WideElems.rg_of hy]; exact hz⟩
  have hc := hown.canon law
  have hnd : (intKeys D).Nodup := by
    obtain ⟨es, rfl, hpw, _⟩ := hc
    show (es.map fun p => Go.intOf p.1).Nodup
    refine List.pairwise_map.2 ((apart_of_rising hpw).imp_of_mem fun {p q} hp' hq' hne e => hne ?_)
    obtain ⟨a, ha⟩ := hk es rfl p hp'
    obtain ⟨c, hc⟩ := hk es rfl q hq'
    rw [ha, hc] at e ⊢
    exact congrArg _ e
  have tr : ∀ a b c : Int, decide (a ≤ b) = true → decide (b ≤ c) = true → decide (a ≤ c) = true := fun a b c h1 h2 => by simp only [decide_eq_true_eq] at *; omega
  have tot : ∀ a b : Int, (decide (a ≤ b) || decide (b ≤ a)) = true := fun a b => by simp only [Bool.or_eq_true, decide_eq_true_eq]; omega
  refine sorted_eq ((List.pairwise_mergeSort tr tot ss).imp fun h => by simpa using h) ?_ ((List.mergeSort_perm ss _).nodup_iff.2 (hp.nodup_iff.2 hnd)) ?_ fun x => ?_
  · refine List.pairwise_map.2 ((List.Pairwise.sublist List.filter_sublist List.pairwise_lt_range).imp fun {a b} h => ?_)
    simp only [Int.ofNat_eq_natCast]; omega
  · refine List.pairwise_map.2 ((List.Pairwise.sublist List.filter_sublist List.pairwise_lt_range).imp fun {a b} h => ?_)
    simp only [Int.ofNat_eq_natCast, ne_eq]; omega
  · rw [(List.mergeSort_perm ss _).mem_iff, hp.mem_iff, mem_intKeys hc x hk, hs.has]
    simp only [places, List.mem_map, List.mem_filter, List.mem_range, Int.ofNat_eq_natCast]
    constructor
    · intro h
      obtain ⟨l, hl⟩ := Option.isSome_iff_exists.1 h
      obtain ⟨h0, h1⟩ := hd x l hl
      exact ⟨x.toNat, ⟨by omega, by rw [show ((x.toNat : Nat) : Int) = x by omega]; exact h⟩, by omega⟩
    · rintro ⟨i, ⟨_, h⟩, rfl⟩
      exact h


end Go.Proofs.YtkgjmejgkffbdaaGreatDoor
/- disc's Settle. -/
set_option linter.unusedVariables false
namespace Go.Proofs.YtkgjmejgkffbdaaGreatDoor
open Go.RowKit Go.Maps

/-- The i-th bit of keep; behind its last byte the first comes again. -/
def keepBit (l : List UInt8) (i : Nat) : Bool := !l.isEmpty && (l.getD (i / 8 % l.length) 0).toNat / 2 ^ (i % 8) % 2 == 1

/-- The loose sectors, one behind the other: those whose bits are one are safe from then on. -/
def settle (keep : List UInt8) (M : Int → Option (List UInt8)) : List Int → Nat → List (List UInt8) → List (List UInt8)
  | [], _, S => S
  | k :: r, i, S => settle keep M r (i + 1) (if keepBit keep i then S.set k.toNat ((M k).getD []) else S)

theorem settle_length (keep : List UInt8) (M : Int → Option (List UInt8)) : ∀ (ks : List Int) (i : Nat) (S : List (List UInt8)), (settle keep M ks i S).length = S.length
  | [], _, _ => rfl
  | k :: r, i, S => by
    rw [settle, settle_length keep M r (i + 1)]
    split <;> simp

theorem mem_places {n : Nat} {M : Int → Option (List UInt8)} {k : Int} (h : k ∈ places n M) : 0 ≤ k ∧ k < n ∧ (M k).isSome = true := by
  simp only [places, List.mem_map, List.mem_filter, List.mem_range, Int.ofNat_eq_natCast] at h
  obtain ⟨i, ⟨h1, h2⟩, rfl⟩ := h
  exact ⟨by omega, by omega, h2⟩

end Go.Proofs.YtkgjmejgkffbdaaGreatDoor
