/- Order, the mathematics: a line's words; SplitN. -/
import Derived.Test.YtlldmebjgidbaaaDoorFi20
import Derived.Lib.Split
import Derived.Lib.IndexBytes
set_option linter.unusedVariables false
namespace Go.Proofs.YtlldmebjgidbaaaDoor
open Go.RowKit Go.Lib

def cons1 (c : UInt8) : List (List UInt8) → List (List UInt8)
  | x :: r => (c :: x) :: r
  | [] => [[c]]

/-- What stands between blanks. -/
def wds : List UInt8 → List (List UInt8)
  | [] => [[]]
  | c :: l => if c = 32 then [] :: wds l else cons1 c (wds l)

/-- The same, parted at the first k blanks alone. -/
def wdk : Nat → List UInt8 → List (List UInt8)
  | 0, s => [s]
  | _ + 1, [] => [[]]
  | k + 1, c :: l => if c = 32 then [] :: wdk k l else cons1 c (wdk (k + 1) l)

theorem cons1_len (c : UInt8) (r : List (List UInt8)) (h : r ≠ []) : (cons1 c r).length = r.length := by
  cases r with
  | nil => exact absurd rfl h
  | cons => rfl

theorem wds_ne : ∀ l, wds l ≠ []
  | [] => by simp [wds]
  | c :: l => by
    unfold wds
    split
    · simp
    · cases hw : wds l with
      | nil => exact absurd hw (wds_ne l)
      | cons => simp [cons1]
theorem wdk_ne : ∀ k l, wdk k l ≠ []
  | 0, _ => by simp [wdk]
  | _ + 1, [] => by simp [wdk]
  | k + 1, c :: l => by
    unfold wdk
    split
    · simp
    · cases hw : wdk (k + 1) l with
      | nil => exact absurd hw (wdk_ne (k + 1) l)
      | cons => simp [cons1]

theorem splitK_wdk : ∀ (s : List UInt8) (k : Nat), splitK [32] 0 k s = wdk k s
  | s, 0 => by cases s <;> rfl
  | [], k + 1 => by
    rw [splitK, index_one]
    rfl
  | c :: l, k + 1 => by
    have ih1 := splitK_wdk l k
    have ih2 := splitK_wdk l (k + 1)
    rw [splitK, index_one] at ih2
    rw [splitK, index_one]
    unfold indexByte wdk
    by_cases hc : c = 32
    · subst hc
      simp [ih1]
    · have hb : (c == 32) = false := beq_eq_false_iff_ne.2 hc
      rw [if_neg hc, ← ih2]
      simp only [hb, Bool.false_eq_true, if_false]
      have hge := indexByte_ge l 32
      by_cases hi : indexByte l 32 = -1
      · simp [hi, cons1]
      · obtain ⟨i, hi2⟩ : ∃ i : Nat, indexByte l 32 = i := ⟨(indexByte l 32).toNat, by omega⟩
        have e1 : ((i : Int) == -1) = false := beq_eq_false_iff_ne.2 (by omega)
        have e2 : ((i : Int) + 1 == -1) = false := beq_eq_false_iff_ne.2 (by omega)
        rw [hi2]
        simp only [e1, e2, Bool.false_eq_true, if_false, cons1, Nat.add_zero, List.length_cons, List.length_nil, Nat.zero_add]
        rw [show ((i : Int) + 1).toNat = i + 1 by omega, show (i : Int).toNat = i by omega]
        rfl

theorem wds_len : ∀ l, (wds l).length ≤ l.length + 1
  | [] => by simp [wds]
  | c :: l => by
    unfold wds
    have := wds_len l
    split
    · simp; omega
    · rw [cons1_len _ _ (wds_ne l)]; simp; omega

theorem wdk_all : ∀ (l : List UInt8) (k : Nat), (wds l).length ≤ k + 1 → wdk k l = wds l
  | [], 0, _ => rfl
  | [], k + 1, _ => rfl
  | c :: l, 0, h => by
    unfold wds at h ⊢
    split at h
    · have h0 : (wds l).length ≠ 0 := fun e => wds_ne l (List.length_eq_zero_iff.1 e)
      rw [List.length_cons] at h
      omega
    · rename_i hc
      rw [cons1_len _ _ (wds_ne l)] at h
      rw [if_neg hc, ← wdk_all l 0 h]
      simp [wdk, cons1]
  | c :: l, k + 1, h => by
    unfold wdk
    unfold wds at h ⊢
    split at h
    · rename_i hc
      rw [if_pos hc, if_pos hc, wdk_all l k (by simpa using h)]
    · rename_i hc
      rw [cons1_len _ _ (wds_ne l)] at h
      rw [if_neg hc, if_neg hc, wdk_all l (k + 1) h]

theorem wdk_many : ∀ (l : List UInt8) (k : Nat), k + 1 < (wds l).length → (wdk k l).length = k + 1
  | _, 0, _ => by simp [wdk]
  | [], k + 1, h => by simp [wds] at h
  | c :: l, k + 1, h => by
    unfold wdk
    unfold wds at h
    split at h
    · rename_i hc
      rw [if_pos hc, List.length_cons, wdk_many l k (by simpa using h)]
    · rename_i hc
      rw [cons1_len _ _ (wds_ne l)] at h
      rw [if_neg hc, cons1_len _ _ (wdk_ne _ _), wdk_many l (k + 1) h]

theorem wdk_head : ∀ (l : List UInt8) (k : Nat), (wdk (k + 1) l).head? = (wds l).head?
  | [], k => rfl
  | c :: l, k => by
    unfold wdk wds
    split
    · rfl
    · have := wdk_head l k
      cases h1 : wdk (k + 1) l with
      | nil => exact absurd h1 (wdk_ne _ _)
      | cons a b =>
        cases h2 : wds l with
        | nil => exact absurd h2 (wds_ne l)
        | cons a' b' =>
          rw [h1, h2] at this
          simp only [List.head?_cons, Option.some.injEq] at this
          simp [cons1, this]

/-- A line's words, as Parse parts it: with a fifth they are too many. -/
def wd5 (l : List UInt8) : List (List UInt8) := wdk (min 5 (l.length + 1) - 1) l

theorem wd5_head (l : List UInt8) : (wd5 l).head? = (wds l).head? := by
  unfold wd5
  cases l with
  | nil => rfl
  | cons c l =>
    obtain ⟨k, hk⟩ : ∃ k, min 5 ((c :: l).length + 1) - 1 = k + 1 := ⟨min 5 ((c :: l).length + 1) - 2, by simp; omega⟩
    rw [hk]
    exact wdk_head _ _

theorem wd5_is (l : List UInt8) (n : Nat) (hn : n ≤ 4) : ((wd5 l).length = n → wd5 l = wds l) ∧ ((wds l).length = n → wd5 l = wds l) := by
  have h1 := wds_len l
  have key : (wds l).length ≤ 5 → wd5 l = wds l := fun h => wdk_all l _ (by omega)
  refine ⟨fun h => ?_, fun h => key (by omega)⟩
  by_cases h2 : (wds l).length ≤ 5
  · exact key h2
  · exfalso
    have h3 := wdk_many l (min 5 (l.length + 1) - 1) (by omega)
    unfold wd5 at h
    omega

theorem wd5_len (l : List UInt8) : 1 ≤ (wd5 l).length ∧ (wd5 l).length ≤ 5 := by
  have h1 := wds_len l
  have h0 : (wds l).length ≠ 0 := fun e => wds_ne l (List.length_eq_zero_iff.1 e)
  have h2 : (wd5 l).length ≠ 0 := fun e => wdk_ne _ _ (List.length_eq_zero_iff.1 e)
  refine ⟨by omega, ?_⟩
  by_cases h : (wds l).length ≤ 5
  · have : wd5 l = wds l := wdk_all l _ (by omega)
    rw [this]; exact h
  · have h3 := wdk_many l (min 5 (l.length + 1) - 1) (by omega)
    unfold wd5
    omega

theorem wds_mem : ∀ (l x : List UInt8), x ∈ wds l → x.length ≤ l.length
  | [], x, h => by simp [wds] at h; subst h; simp
  | c :: l, x, h => by
    unfold wds at h
    split at h
    · rcases List.mem_cons.1 h with rfl | h
      · simp
      · have := wds_mem l x h; simp; omega
    · cases hw : wds l with
      | nil => exact absurd hw (wds_ne l)
      | cons a b =>
        rw [hw] at h
        simp only [cons1] at h
        rcases List.mem_cons.1 h with rfl | h
        · have := wds_mem l a (by rw [hw]; simp); simp; omega
        · have := wds_mem l x (by rw [hw]; simp [h]); simp; omega
theorem wdk_mem : ∀ (k : Nat) (l x : List UInt8), x ∈ wdk k l → x.length ≤ l.length
  | 0, l, x, h => by simp [wdk] at h; subst h; simp
  | k + 1, [], x, h => by simp [wdk] at h; subst h; simp
  | k + 1, c :: l, x, h => by
    unfold wdk at h
    split at h
    · rcases List.mem_cons.1 h with rfl | h
      · simp
      · have := wdk_mem k l x h; simp; omega
    · cases hw : wdk (k + 1) l with
      | nil => exact absurd hw (wdk_ne _ _)
      | cons a b =>
        rw [hw] at h
        simp only [cons1] at h
        rcases List.mem_cons.1 h with rfl | h
        · have := wdk_mem (k + 1) l a (by rw [hw]; simp); simp; omega
        · have := wdk_mem (k + 1) l x (by rw [hw]; simp [h]); simp; omega

theorem tSplit (l : List UInt8) (hl : l.length ≤ 1000000) (w : World) (T : Tb20 w) :
    Calls Tryd.prog 26 #[.string ⟨l.toArray⟩, .string ⟨#[32]⟩, .int .i64 5] w fun e w' => ∃ g cap, e = .returned (.slice (some ⟨g, 0, none⟩) (wd5 l).length cap) ∧ (wd5 l).length ≤ cap ∧ cap ≤ 5 ∧ w.heap.size ≤ g ∧ RdS g 0 (wd5 l) w' ∧ KeptIn (· < w.heap.size) w w' := by
  obtain ⟨m, hm⟩ := T.mx
  have hsz : (⟨l.toArray⟩ : ByteArray).size = l.length := by simp [ByteArray.size]
  have h := Tryd.strings_SplitN ⟨l.toArray⟩ ⟨#[32]⟩ 5 m w (by rw [hsz]; omega) hm (by decide) (by decide) (by decide)
  have hd : (splitB ⟨#[32]⟩ 0 (min 5 ((⟨l.toArray⟩ : ByteArray).size + 1) - 1) ⟨l.toArray⟩).map (·.data.toList) = wd5 l := by
    rw [splitB_data, hsz]
    exact splitK_wdk l _
  have hlen : (splitB ⟨#[32]⟩ 0 (min 5 ((⟨l.toArray⟩ : ByteArray).size + 1) - 1) ⟨l.toArray⟩).length = (wd5 l).length := by rw [← hd, List.length_map]
  have hle := splitB_length_le ⟨#[32]⟩ 0 (min 5 ((⟨l.toArray⟩ : ByteArray).size + 1) - 1) ⟨l.toArray⟩
  refine h.mono ?_
  rintro e w' ⟨rfl, rfl⟩
  refine ⟨w.heap.size, _, by rw [hlen], by rw [hlen] at hle; omega, by omega, Nat.le_refl _, ?_, (KeptIn.refl _ _).alloc (fun _ h => h) _⟩
  intro j t ht
  rw [← hd, List.getElem?_map, Option.map_eq_some_iff] at ht
  obtain ⟨x, hx, rfl⟩ := ht
  unfold World.cell?
  rw [heap_alloc_new]
  have hj := (List.getElem?_eq_some_iff.1 hx).1
  simp only [cellsOf, Nat.zero_add, List.getElem?_toArray]
  rw [List.getElem?_append_left (by simpa using hj), List.getElem?_map, hx]
  simp

/-- The order that can be whose line a text is. -/
def parseO (l : List UInt8) : Option Od :=
  match (wds l).head?.bind kindOf with
  | none => none
  | some k =>
    if (wds l).length ≠ 1 + (cn k + ct k) then none else
    match mapO numW ((wds l).tail.take (cn k)), mapO bytS ((wds l).tail.drop (cn k)) with
    | some ns, some ts => if canT ts = true then some ⟨k, ns, ts⟩ else none
    | _, _ => none

end Go.Proofs.YtlldmebjgidbaaaDoor
