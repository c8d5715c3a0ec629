/- Heads: the mathematics. Of no program. -/
import Derived.Test.YtdogchpeimgkjaaDoorTold
set_option linter.unusedVariables false
namespace Go.Proofs.YtdogchpeimgkjaaDoor
open Go.RowKit

/-- A head. -/
structure Hd where
  gen : Nat
  root : Int
  slow : Int
  fast : Int
  chunk : Int

/-- A head that can be. -/
def Hd.can (h : Hd) : Prop := 1 ≤ h.gen ∧ h.gen ≤ 4294967295 ∧ 0 ≤ h.root ∧ h.root ≤ 511 ∧ 1 ≤ h.slow ∧ h.slow ≤ 256 ∧ 1 ≤ h.fast ∧ h.fast ≤ 256 ∧ 1 ≤ h.chunk ∧ h.chunk ≤ 8
instance (h : Hd) : Decidable h.can := by unfold Hd.can; infer_instance
def goodH (h : Hd) : Bool := decide h.can

/-- A head as a value. -/
def headV (h : Hd) : Value := .agg #[.int .u64 h.gen, .int .i64 h.root, .int .i64 h.slow, .int .i64 h.fast, .int .i64 h.chunk]
def noH : Hd := ⟨0, 0, 0, 0, 0⟩

theorem headV_inj {h k : Hd} (e : headV h = headV k) : h = k := by
  obtain ⟨g, r, s, f, c⟩ := h
  obtain ⟨g', r', s', f', c'⟩ := k
  simp [headV] at e
  obtain ⟨e1, e2, e3, e4, e5⟩ := e
  obtain rfl : g = g' := by omega
  subst e2 e3 e4 e5
  rfl

/-- What a head's sum is of. -/
def textH (h : Hd) : List UInt8 := 84 :: UInt8.ofNat h.chunk.toNat :: (bytesLE h.slow.toNat 2 ++ (bytesLE h.fast.toNat 2 ++ (bytesLE h.gen 4 ++ bytesLE h.root.toNat 2)))
def bytesH (h : Hd) : List UInt8 := sealOf (textH h)
theorem textH_length (h : Hd) : (textH h).length = 12 := by simp [textH, bytesLE_length]
theorem bytesH_length (h : Hd) : (bytesH h).length = 16 := by rw [bytesH, sealOf_length, textH_length]

/-- What twelve bytes tell. -/
def headIn (t : List UInt8) : Hd := ⟨numLE ((t.drop 6).take 4), numLE ((t.drop 10).take 2), numLE ((t.drop 2).take 2), numLE ((t.drop 4).take 2), (t.getD 1 0).toNat⟩
/-- Whether bytes are a head's. -/
def isH (s : List UInt8) : Bool := decide (s.length = 16) && (goodH (headIn s) && decide (bytesH (headIn s) = s))
/-- The head that is read. -/
def headR (s : List UInt8) : Hd := if isH s then headIn s else noH

theorem take12 (t : List UInt8) (h : 12 ≤ t.length) : ∃ a b c d e f g i j k l m r, t = a :: b :: c :: d :: e :: f :: g :: i :: j :: k :: l :: m :: r := by
  match t, h with
  | a :: b :: c :: d :: e :: f :: g :: i :: j :: k :: l :: m :: r, _ => exact ⟨_, _, _, _, _, _, _, _, _, _, _, _, _, rfl⟩

theorem byte_of (n : Nat) (h : n < 256) : (UInt8.ofNat n).toNat = n := by
  have := ofNat_byte n
  omega

theorem headIn_text (h : Hd) (hg : goodH h = true) (q : List UInt8) : headIn (textH h ++ q) = h := by
  obtain ⟨h1, h2, h3, h4, h5, h6, h7, h8, h9, h10⟩ : h.can := of_decide_eq_true hg
  obtain ⟨g, r, s, f, c⟩ := h
  simp only at h1 h2 h3 h4 h5 h6 h7 h8 h9 h10
  have e2 : ∀ n, bytesLE n 2 = [UInt8.ofNat n, UInt8.ofNat (n / 256)] := fun n => rfl
  have e4 : ∀ n, bytesLE n 4 = [UInt8.ofNat n, UInt8.ofNat (n / 256), UInt8.ofNat (n / 256 / 256), UInt8.ofNat (n / 256 / 256 / 256)] := fun n => rfl
  have n2 := fun n => numLE_bytesLE n 2
  have n4 := fun n => numLE_bytesLE n 4
  rw [show (2 : Nat) ^ (8 * 2) = 65536 from rfl] at n2
  rw [show (2 : Nat) ^ (8 * 4) = 4294967296 from rfl] at n4
  have a1 : ((textH ⟨g, r, s, f, c⟩ ++ q).drop 6).take 4 = bytesLE g 4 := by simp [textH, e2, e4]
  have a2 : ((textH ⟨g, r, s, f, c⟩ ++ q).drop 10).take 2 = bytesLE r.toNat 2 := by simp [textH, e2, e4]
  have a3 : ((textH ⟨g, r, s, f, c⟩ ++ q).drop 2).take 2 = bytesLE s.toNat 2 := by simp [textH, e2, e4]
  have a4 : ((textH ⟨g, r, s, f, c⟩ ++ q).drop 4).take 2 = bytesLE f.toNat 2 := by simp [textH, e2, e4]
  have a5 : (textH ⟨g, r, s, f, c⟩ ++ q).getD 1 0 = UInt8.ofNat c.toNat := by simp [textH]
  unfold headIn
  rw [a1, a2, a3, a4, a5, n4, n2, n2, n2, byte_of _ (by omega)]
  simp only [Hd.mk.injEq]
  refine ⟨by omega, by omega, by omega, by omega, by omega⟩

theorem text_headIn (t : List UInt8) (h : t.length = 12) (h0 : t.getD 0 0 = 84) : textH (headIn t) = t := by
  obtain ⟨a, b, c, d, e, f, g, i, j, k, l, m, r, rfl⟩ := take12 t (by omega)
  obtain rfl : r = [] := List.eq_nil_of_length_eq_zero (by simpa using h)
  obtain rfl : a = 84 := h0
  have n2 : ∀ x y : UInt8, bytesLE (numLE [x, y]) 2 = [x, y] := fun x y => bytesLE_numLE [x, y]
  have n4 : ∀ x y z u : UInt8, bytesLE (numLE [x, y, z, u]) 4 = [x, y, z, u] := fun x y z u => bytesLE_numLE [x, y, z, u]
  simp [textH, headIn, n2, n4]

theorem headIn_take (s : List UInt8) (h : 12 ≤ s.length) : headIn (s.take 12) = headIn s := by
  obtain ⟨a, b, c, d, e, f, g, i, j, k, l, m, r, rfl⟩ := take12 s h
  simp [headIn]

theorem isH_short {s : List UInt8} (h : s.length ≠ 16) : isH s = false := by rw [isH, decide_eq_false h]; rfl

/-- A sector is a head's just where its sum is right, it begins with the mark, and the head can be. -/
theorem isH_iff (s : List UInt8) (h : s.length = 16) : (openIs s && (decide (s.getD 0 0 = 84) && goodH (headIn s))) = isH s := by
  have ht : (s.take 12).length = 12 := by rw [List.length_take]; omega
  have h0 : (s.take 12).getD 0 0 = s.getD 0 0 := by
    obtain ⟨a, b, c, d, e, f, g, i, j, k, l, m, r, rfl⟩ := take12 s (by omega)
    rfl
  have hs := openIs_sealed s (by omega)
  rw [h] at hs
  rw [isH, decide_eq_true h, Bool.true_and, Bool.eq_iff_iff]
  simp only [Bool.and_eq_true, decide_eq_true_iff]
  constructor
  · rintro ⟨h1, h2, h3⟩
    refine ⟨h3, ?_⟩
    rw [bytesH, ← headIn_take s (by omega), text_headIn _ ht (by rw [h0]; exact h2)]
    exact hs.1 h1
  · rintro ⟨h3, h4⟩
    have e : s.take 12 = textH (headIn s) := by
      conv => lhs; rw [← h4, bytesH, sealOf]
      exact List.take_left' (textH_length _)
    refine ⟨hs.2 (by show sealOf (s.take 12) = s; rw [e]; exact h4), ?_, h3⟩
    rw [← h0, e]
    rfl

theorem openOf_length (s : List UInt8) (h : openIs s = true) : (openOf s).length = s.length - 4 := by
  rw [openOf, h, if_pos rfl, List.length_take]; omega
theorem openOf_16 (s : List UInt8) (h : openIs s = true) (hl : s.length = 16) : openOf s = s.take 12 := by
  rw [openOf, h, if_pos rfl, hl]

/-- What was written is read as it was. -/
theorem isH_bytes (h : Hd) (hg : goodH h = true) : isH (bytesH h) = true ∧ headIn (bytesH h) = h := by
  have e : headIn (bytesH h) = h := headIn_text h hg _
  refine ⟨?_, e⟩
  rw [isH, e, hg, decide_eq_true (bytesH_length h), decide_eq_true rfl]
  rfl
theorem headR_bytes (h : Hd) (hg : goodH h = true) : headR (bytesH h) = h := by
  rw [headR, (isH_bytes h hg).1, if_pos rfl, (isH_bytes h hg).2]

theorem isH_open {s : List UInt8} (h : isH s = true) : openIs s = true := by
  have hl : s.length = 16 := by
    simp only [isH, Bool.and_eq_true, decide_eq_true_iff] at h
    exact h.1
  rw [← isH_iff s hl] at h
  simp only [Bool.and_eq_true] at h
  exact h.1

theorem turn_length (t : List UInt8) (k m : Nat) (h : k + 4 ≤ t.length) (hm : m < 4294967296) : (turn t k m 4).length = t.length := by
  obtain ⟨p, q, q', r, e1, e2, e3, e4, _⟩ := turn_four t k m h hm
  rw [e2]
  conv => rhs; rw [e1]
  simp [e3, e4]

/-- What was turned within four bytes is no head, unless it was turned by nothing. -/
theorem isH_turn (h : Hd) (hg : goodH h = true) (k m : Nat) (hk : k ≤ 12) (hm : m < 4294967296) (h0 : m ≠ 0) : isH (turn (bytesH h) k m 4) = false := by
  obtain ⟨h1, _⟩ := told (textH h) k m (by rw [textH_length]; exact hk) hm
  rw [decide_eq_false h0] at h1
  rw [Bool.eq_false_iff]
  intro hi
  have := isH_open hi
  rw [bytesH, h1] at this
  cases this

end Go.Proofs.YtdogchpeimgkjaaDoor
