/- Maps by integers: delete, clear; their keys, sorted (over what a seat's shelf lays of slices.Sorted and maps.Keys). -/
import Derived.Test.YtdbohcdjamhdjaaMp
import Derived.WalkKit
import Derived.OwnWalkIn
import Derived.TacticsInMore
import Derived.CallsIn
import Derived.Lib.SlKeysI
set_option linter.unusedVariables false
namespace Go.Proofs.Ytdbohcdjamhdjaa
open Go.RowKit Go.Maps Go.Sort

/-- What M says behind a delete. -/
def mpDel {α : Type} (M : Int → Option α) (x : Int) : Int → Option α := fun y => if y = x then none else M y

section
variable {α : Type} {V : α → Value}
theorem mpTurned {w w' : World} {b : Nat} (h : w.mapTurned w' b) : KeptIn (· ≠ b) w w' ∧ w'.heap.size = w.heap.size := by
  obtain ⟨es, clock, es', clock', hb, rfl⟩ := h
  exact ⟨⟨rfl, rfl, rfl, by simp [ChangeMaps.setBlock], fun i hi => ChangeMaps.heap_setBlock_other hb _ hi⟩, by simp [ChangeMaps.setBlock]⟩
theorem mpSays_del {D : DataW α} {M : Int → Option α} (h : MpSays D M) (x : Int) : MpSays (D.del (.int .i64 x)) (mpDel M x) := by
  refine ⟨fun y => ?_, fun y l' hy z => ?_⟩
  · unfold mpDel
    by_cases e : y = x
    · subst e
      rw [Maps.has_del_same, if_pos rfl]
      rfl
    · rw [Maps.has_del_other (by simpa using e), h.has, if_neg e]
  · unfold mpDel at hy
    by_cases e : y = x
    · rw [if_pos e] at hy
      cases hy
    · rw [if_neg e] at hy
      rw [Maps.atKey_del_other (by simpa using e)]
      exact h.at' y l' hy z
/-- 'delete(m, k)'. -/
theorem MpAt.drop {b N : Nat} {M : Int → Option α} {w : World} (h : MpAt V b N M w) {T te : TypeId} (hT : Try.prog.underlying T = some (.map 3 te)) (x : Int) (hx : (Lit.int .i64 x).wf = true) (ty : TypeId) :
    ∃ w', (Builtin.delete_ #[T, 3] ty #[.map (some b), .int .i64 x]).run Try.prog w = .ok (.tuple #[]) w' ∧ MpAt V b N (mpDel M x) w' ∧ KeptIn (· ≠ b) w w' ∧ w'.heap.size = w.heap.size := by
  obtain ⟨D, hown, hs⟩ := h
  obtain ⟨w', hrun, hown', ht⟩ := hown.drop mpLaw hT (mpKey hx) ty
  obtain ⟨k1, k2⟩ := mpTurned ht
  exact ⟨w', hrun, ⟨_, hown', mpSays_del hs x⟩, k1, k2⟩
/-- 'clear(m)'. -/
theorem MpAt.clear {b N : Nat} {M : Int → Option α} {w : World} (h : MpAt V b N M w) {T te : TypeId} (hT : Try.prog.underlying T = some (.map 3 te)) (ty : TypeId) :
    ∃ w', (Builtin.clear_ #[T] ty #[.map (some b)]).run Try.prog w = .ok (.tuple #[]) w' ∧ MpAt V b 0 (fun _ => none) w' ∧ KeptIn (· ≠ b) w w' ∧ w'.heap.size = w.heap.size := by
  obtain ⟨D, ⟨es, clock, hb, F, hs, hD⟩, hsay⟩ := h
  refine ⟨ChangeMaps.setBlock w b (.map #[] clock), ?_, ⟨.map [], ⟨#[], clock, ChangeMaps.heap_setBlock_same hb _, ⟨by simp, MapKept.stamped_empty clock, by simp⟩, Nat.le_refl _, rfl⟩, mpSays_empty⟩,
    ⟨rfl, rfl, rfl, by simp [ChangeMaps.setBlock], fun i hi => ChangeMaps.heap_setBlock_other hb _ hi⟩, by simp [ChangeMaps.setBlock]⟩
  simp [Builtin.clear_, run_underlying hT, MapKept.run_getObj_map hb, MapKept.run_setObj_map _ hb, Result.andThen, ChangeMaps.setBlock]
end

/-- The numbers below n that P tells, rising. -/
def upTo (n : Nat) (P : Int → Bool) : List Int := ((List.range n).filter fun i : Nat => P (i : Int)).map Int.ofNat
theorem mem_upTo {n : Nat} {P : Int → Bool} {q : Int} : q ∈ upTo n P ↔ 0 ≤ q ∧ q < n ∧ P q = true := by
  unfold upTo
  simp only [List.mem_map, List.mem_filter, List.mem_range, Int.ofNat_eq_natCast]
  constructor
  · rintro ⟨i, ⟨h1, h2⟩, rfl⟩
    exact ⟨by omega, by omega, h2⟩
  · rintro ⟨h1, h2, h3⟩
    exact ⟨q.toNat, ⟨by omega, by rw [show ((q.toNat : Nat) : Int) = q by omega]; exact h3⟩, by omega⟩
theorem upTo_sorted (n : Nat) (P : Int → Bool) : (upTo n P).Pairwise (· < ·) := by
  refine List.pairwise_map.2 ((List.Pairwise.sublist List.filter_sublist List.pairwise_lt_range).imp fun {a b} h => ?_)
  simp only [Int.ofNat_eq_natCast]; omega
theorem upTo_length (n : Nat) (P : Int → Bool) : (upTo n P).length ≤ n := by
  have := List.length_filter_le (fun i : Nat => P (i : Int)) (List.range n)
  simp only [upTo, List.length_map]
  rwa [List.length_range] at this
theorem sorted_eq9 {a b : List Int} (ha : a.Pairwise (· ≤ ·)) (hb : b.Pairwise (· ≤ ·)) (na : a.Nodup) (nb : b.Nodup) (h : ∀ x, x ∈ a ↔ x ∈ b) : a = b :=
  List.Perm.eq_of_pairwise (fun x y _ _ h1 h2 => Int.le_antisymm h1 h2) ha hb ((List.perm_ext_iff_of_nodup na nb).2 h)
theorem mem_intKeys9 {H : Type} {D : DataW H} (h : Canon D) (x : Int) (hk : ∀ es, D = .map es → ∀ p ∈ es, ∃ y, p.1 = .int .i64 y) : x ∈ intKeys D ↔ Maps.has D (.int .i64 x) = true := by
  obtain ⟨es, rfl, hs, _⟩ := h
  rw [has_eq, List.any_eq_true]
  show x ∈ es.map (fun p => Go.intOf p.1) ↔ _
  rw [List.mem_map]
  constructor
  · rintro ⟨p, hp, rfl⟩
    obtain ⟨y, hy⟩ := hk es rfl p hp
    exact ⟨p, hp, by rw [hy]; simp [Go.intOf, Lit.sameKey]⟩
  · rintro ⟨p, hp, he⟩
    obtain ⟨y, hy⟩ := hk es rfl p hp
    refine ⟨p, hp, ?_⟩
    rw [hy] at he ⊢
    simpa [Lit.sameKey, Go.intOf] using he
/-- The keys that came, sorted. -/
theorem keys_upTo {α : Type} {V : α → Value} {b N n : Nat} {D : DataW α} {M : Int → Option α} {w : World} (hown : w.ownsMap Try.prog 3 (mpR V) b N D) (hs : MpSays D M) (hd : ∀ x l, M x = some l → 0 ≤ x ∧ x < n) (ss : List Int) (hp : ss.Perm (intKeys D)) :
    ss.mergeSort (fun x y => decide (x ≤ y)) = upTo n fun q => (M q).isSome := by
  have hk : ∀ es, D = .map es → ∀ p ∈ es, ∃ y, p.1 = .int .i64 y := by
    obtain ⟨es, clock, hb, F, _, hD⟩ := hown
    intro es' he p hp
    rw [hD] at he
    cases he
    obtain ⟨x, hx, rfl⟩ := List.mem_map.1 (mem_sorted.1 hp)
    obtain ⟨y, hy⟩ := F.reads x hx
    obtain ⟨z, _, hz, _⟩ := Maps.keyOf_i64 Try.underlying3 (WideElems.rd_key hy)
    exact ⟨z, by rw [WideElems.rg_of hy]; exact hz⟩
  have hc := hown.canon mpLaw
  have hnd : (intKeys D).Nodup := by
    obtain ⟨es, rfl, hpw, _⟩ := hc
    show (es.map fun p => Go.intOf p.1).Nodup
    refine List.pairwise_map.2 ((apart_of_rising hpw).imp_of_mem fun {p q} hp' hq' hne e => hne ?_)
    obtain ⟨a, ha⟩ := hk es rfl p hp'
    obtain ⟨c, hc⟩ := hk es rfl q hq'
    rw [ha, hc] at e ⊢
    exact congrArg _ e
  have tr : ∀ a b c : Int, decide (a ≤ b) = true → decide (b ≤ c) = true → decide (a ≤ c) = true := fun a b c h1 h2 => by simp only [decide_eq_true_eq] at *; omega
  have tot : ∀ a b : Int, (decide (a ≤ b) || decide (b ≤ a)) = true := fun a b => by simp only [Bool.or_eq_true, decide_eq_true_eq]; omega
  refine sorted_eq9 ((List.pairwise_mergeSort tr tot ss).imp fun h => by simpa using h) ((upTo_sorted _ _).imp fun h => Int.le_of_lt h) ((List.mergeSort_perm ss _).nodup_iff.2 (hp.nodup_iff.2 hnd)) ((upTo_sorted _ _).imp fun {a b} h e => by omega) fun x => ?_
  rw [(List.mergeSort_perm ss _).mem_iff, hp.mem_iff, mem_intKeys9 hc x hk, hs.has, mem_upTo]
  constructor
  · intro h
    obtain ⟨l, hl⟩ := Option.isSome_iff_exists.1 h
    obtain ⟨h0, h1⟩ := hd x l hl
    exact ⟨h0, h1, h⟩
  · exact fun h => h.2.2

/-- A map has no more elements than there are numbers for them. -/
theorem mp_size {α : Type} {V : α → Value} {b N n : Nat} {D : DataW α} {M : Int → Option α} {w : World} (hown : w.ownsMap Try.prog 3 (mpR V) b N D) (hsay : MpSays D M) (hd : ∀ x l, M x = some l → 0 ≤ x ∧ x < n) : Maps.size D ≤ n := by
  have he := keys_upTo hown hsay hd (intKeys D) (List.Perm.refl _)
  have hl : (intKeys D).length = (upTo n fun q => (M q).isSome).length := by rw [← he, List.length_mergeSort]
  have hp := upTo_length n fun q => (M q).isSome
  obtain ⟨es, rfl, _⟩ := hown.canon mpLaw
  have : (intKeys (DataW.map es : DataW α)).length = Maps.size (DataW.map es : DataW α) := by simp [intKeys, Maps.size]
  omega
theorem MpAt.cap {α : Type} {V : α → Value} {b N n : Nat} {M : Int → Option α} {w : World} (h : MpAt V b N M w) (hd : ∀ x l, M x = some l → 0 ≤ x ∧ x < n) : MpAt V b n M w := by
  obtain ⟨D, hown, hsay⟩ := h
  have hsz := mp_size hown hsay hd
  refine ⟨D, ?_, hsay⟩
  obtain ⟨es, clock, hb, F, hs, rfl⟩ := hown
  refine ⟨es, clock, hb, F, ?_, rfl⟩
  have e1 : Maps.size (DataW.map ((es.toList.map (WideElems.rg Try.prog 3 (mpR V))).foldr DataW.insert [])) = es.size := by simp [Maps.size, _root_.Go.length_sorted]
  omega

end Go.Proofs.Ytdbohcdjamhdjaa
