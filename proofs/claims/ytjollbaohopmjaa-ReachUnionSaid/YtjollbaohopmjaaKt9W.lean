import Derived.Test.YtjollbaohopmjaaLe9W
import Derived.WalkKit
import Derived.OwnWalkIn
import Derived.TacticsInMore
import Derived.CallsIn
import Derived.Lib.SlKeysI
/- Reach: the keys of a map by integers, sorted: the mathematics. -/
set_option linter.unusedVariables false
namespace Go.Proofs.Ytjollbaohopmjaa
open Go.RowKit Go.Maps Go.Sort

/-- The numbers below n that P tells, rising. -/
def upTo (n : Nat) (P : Int → Bool) : List Int := ((List.range n).filter fun i : Nat => P (i : Int)).map Int.ofNat
theorem mem_upTo {n : Nat} {P : Int → Bool} {q : Int} : q ∈ upTo n P ↔ 0 ≤ q ∧ q < n ∧ P q = true := by
  unfold upTo
  simp only [List.mem_map, List.mem_filter, List.mem_range, Int.ofNat_eq_natCast]
  constructor
  · rintro ⟨i, ⟨h1, h2⟩, rfl⟩
    exact ⟨by omega, by omega, h2⟩
  · rintro ⟨h1, h2, h3⟩
    exact ⟨q.toNat, ⟨by omega, by rw [show ((q.toNat : Nat) : Int) = q by omega]; exact h3⟩, by omega⟩
theorem upTo_sorted (n : Nat) (P : Int → Bool) : (upTo n P).Pairwise (· < ·) := by
  refine List.pairwise_map.2 ((List.Pairwise.sublist List.filter_sublist List.pairwise_lt_range).imp fun {a b} h => ?_)
  simp only [Int.ofNat_eq_natCast]; omega
theorem upTo_length (n : Nat) (P : Int → Bool) : (upTo n P).length ≤ n := by
  have := List.length_filter_le (fun i : Nat => P (i : Int)) (List.range n)
  simp only [upTo, List.length_map]
  rwa [List.length_range] at this
theorem sorted_eq9 {a b : List Int} (ha : a.Pairwise (· ≤ ·)) (hb : b.Pairwise (· ≤ ·)) (na : a.Nodup) (nb : b.Nodup) (h : ∀ x, x ∈ a ↔ x ∈ b) : a = b :=
  List.Perm.eq_of_pairwise (fun x y _ _ h1 h2 => Int.le_antisymm h1 h2) ha hb ((List.perm_ext_iff_of_nodup na nb).2 h)
theorem mem_intKeys9 {H : Type} {D : DataW H} (h : Canon D) (x : Int) (hk : ∀ es, D = .map es → ∀ p ∈ es, ∃ y, p.1 = .int .i64 y) : x ∈ intKeys D ↔ Maps.has D (.int .i64 x) = true := by
  obtain ⟨es, rfl, hs, _⟩ := h
  rw [has_eq, List.any_eq_true]
  show x ∈ es.map (fun p => Go.intOf p.1) ↔ _
  rw [List.mem_map]
  constructor
  · rintro ⟨p, hp, rfl⟩
    obtain ⟨y, hy⟩ := hk es rfl p hp
    exact ⟨p, hp, by rw [hy]; simp [Go.intOf, Lit.sameKey]⟩
  · rintro ⟨p, hp, he⟩
    obtain ⟨y, hy⟩ := hk es rfl p hp
    refine ⟨p, hp, ?_⟩
    rw [hy] at he ⊢
    simpa [Lit.sameKey, Go.intOf] using he
/-- The keys that came, sorted. -/
theorem keys_upTo {α : Type} {V : α → Value} {b N n : Nat} {D : DataW α} {M : Int → Option α} {w : World} (hown : w.ownsMap Try.prog 3 (mpR V) b N D) (hs : MpSays D M) (hd : ∀ x l, M x = some l → 0 ≤ x ∧ x < n) (ss : List Int) (hp : ss.Perm (intKeys D)) :
    ss.mergeSort (fun x y => decide (x ≤ y)) = upTo n fun q => (M q).isSome := by
  have hk : ∀ es, D = .map es → ∀ p ∈ es, ∃ y, p.1 = .int .i64 y := by
    obtain ⟨es, clock, hb, F, _, hD⟩ := hown
    intro es' he p hp
    rw [hD] at he
    cases he
    obtain ⟨x, hx, rfl⟩ := List.mem_map.1 (mem_sorted.1 hp)
    obtain ⟨y, hy⟩ := F.reads x hx
    obtain ⟨z, _, hz, _⟩ := Maps.keyOf_i64 Try.underlying3 (WideElems.rd_key hy)
    exact ⟨z, by rw [WideElems.rg_of hy]; exact hz⟩
  have hc := hown.canon mpLaw
  have hnd : (intKeys D).Nodup := by
    obtain ⟨es, rfl, hpw, _⟩ := hc
    show (es.map fun p => Go.intOf p.1).Nodup
    refine List.pairwise_map.2 ((apart_of_rising hpw).imp_of_mem fun {p q} hp' hq' hne e => hne ?_)
    obtain ⟨a, ha⟩ := hk es rfl p hp'
    obtain ⟨c, hc⟩ := hk es rfl q hq'
    rw [ha, hc] at e ⊢
    exact congrArg _ e
  have tr : ∀ a b c : Int, decide (a ≤ b) = true → decide (b ≤ c) = true → decide (a ≤ c) = true := fun a b c h1 h2 => by simp only [decide_eq_true_eq] at *; omega
  have tot : ∀ a b : Int, (decide (a ≤ b) || decide (b ≤ a)) = true := fun a b => by simp only [Bool.or_eq_true, decide_eq_true_eq]; omega
  refine sorted_eq9 ((List.pairwise_mergeSort tr tot ss).imp fun h => by simpa using h) ((upTo_sorted _ _).imp fun h => Int.le_of_lt h) ((List.mergeSort_perm ss _).nodup_iff.2 (hp.nodup_iff.2 hnd)) ((upTo_sorted _ _).imp fun {a b} h e => by omega) fun x => ?_
  rw [(List.mergeSort_perm ss _).mem_iff, hp.mem_iff, mem_intKeys9 hc x hk, hs.has, mem_upTo]
  constructor
  · intro h
    obtain ⟨l, hl⟩ := Option.isSome_iff_exists.1 h
    obtain ⟨h0, h1⟩ := hd x l hl
    exact ⟨h0, h1, h⟩
  · exact fun h => h.2.2

/-- slices.Sorted(maps.Keys(m)) of a map of counts. -/
def KeysOk : Prop :=
  (∀ (mb : Option Nat) (W : World), Calls Try.prog 17 #[.map mb] W fun e w' => e = .returned (.func (.func 31) #[] #[.pointer (some ⟨W.heap.size, 0, none⟩)]) ∧ w' = W.alloc (.cells #[.map mb] 62)) ∧
  (∀ (w : World) (b N n : Nat) (C : Int → Nat), MpAt cnV b N (cnM C) w → (∀ x, 0 < C x → 0 ≤ x ∧ x < n) → n ≤ 1000 →
    Calls Try.prog 16 #[.func (.func 31) #[] #[.pointer (some ⟨w.heap.size, 0, none⟩)]] (w.alloc (.cells #[.map (some b)] 62)) fun e w' => ∃ v, e = .returned v ∧
      w'.ownsRow w.heap.size 3 1 v (upTo n fun q => decide (0 < C q)).length ((upTo n fun q => decide (0 < C q)).map fun q => Value.int .i64 q) ∧ KeptIn (· < w.heap.size) w w')

end Go.Proofs.Ytjollbaohopmjaa
