/- A number's lowest bytes. Of no program. -/
import Derived.WalkKit
set_option linter.unusedVariables false
namespace Go.Proofs.Ytmfnapbahkonhaa
open Go.RowKit

/-- The lowest k bytes of n, the lowest first. -/
def bytesLE (n : Nat) : Nat → List UInt8
  | 0 => []
  | k + 1 => UInt8.ofNat n :: bytesLE (n / 256) k

theorem bytesLE_length (n k : Nat) : (bytesLE n k).length = k := by
  induction k generalizing n with
  | zero => rfl
  | succ k ih => simp [bytesLE, ih]

theorem bytesLE_snoc (n k : Nat) : bytesLE n (k + 1) = bytesLE n k ++ [UInt8.ofNat (n / 2 ^ (8 * k))] := by
  induction k generalizing n with
  | zero => simp [bytesLE]
  | succ k ih =>
    rw [bytesLE, ih, bytesLE, List.cons_append, Nat.div_div_eq_div_mul, show 256 * 2 ^ (8 * k) = 2 ^ (8 * (k + 1)) from by rw [show 8 * (k + 1) = 8 + 8 * k from by omega, Nat.pow_add]]

/-- The eight cells behind k bytes. -/
def putCells (n k : Nat) : List Value := (bytesLE n k).map (fun b => .int .u8 b.toNat) ++ List.replicate (8 - k) (.int .u8 0)

theorem putCells_length (n k : Nat) (h : k ≤ 8) : (putCells n k).length = 8 := by
  simp [putCells, bytesLE_length]; omega

theorem putCells_at (n k : Nat) (h : k < 8) : (putCells n k)[k]? = some (.int .u8 0) := by
  have : ((bytesLE n k).map (fun b : UInt8 => Value.int .u8 b.toNat)).length = k := by simp [bytesLE_length]
  rw [putCells, List.getElem?_append_right (by omega), this, Nat.sub_self]
  simp [List.getElem?_replicate]; omega

theorem ofNat_byte (m : Nat) : ((UInt8.ofNat m).toNat : Int) = (m : Int) % 256 := by
  simp

theorem putCells_set (n k : Nat) (h : k < 8) : (putCells n k).set k (.int .u8 ((n : Int) / 2 ^ (8 * k) % 256)) = putCells n (k + 1) := by
  have hl : ((bytesLE n k).map (fun b : UInt8 => Value.int .u8 b.toNat)).length = k := by simp [bytesLE_length]
  rw [putCells, putCells, bytesLE_snoc, List.map_append, List.set_append_right _ _ (by omega), hl, Nat.sub_self, List.append_assoc]
  congr 1
  rw [show 8 - k = (8 - (k + 1)) + 1 from by omega, List.replicate_succ]
  simp only [List.set_cons_zero, List.map_cons, List.map_nil, List.cons_append, List.nil_append, List.cons.injEq, and_true, Value.int.injEq, true_and]
  rw [ofNat_byte]
  congr 1

theorem putCells_take (n k : Nat) : (putCells n k).take k = (bytesLE n k).map (fun b => Value.int .u8 b.toNat) := by
  have hl : ((bytesLE n k).map (fun b : UInt8 => Value.int .u8 b.toNat)).length = k := by simp [bytesLE_length]
  rw [putCells, List.take_append_of_le_length (by omega), List.take_of_length_le (by omega)]

/-- The number of bytes, the lowest first. -/
def numLE : List UInt8 → Nat
  | [] => 0
  | b :: r => b.toNat + 256 * numLE r

theorem numLE_snoc (l : List UInt8) (b : UInt8) : numLE (l ++ [b]) = numLE l + b.toNat * 2 ^ (8 * l.length) := by
  induction l with
  | nil => simp [numLE]
  | cons x r ih =>
    rw [List.cons_append, numLE, numLE, ih, List.length_cons, show 8 * (r.length + 1) = 8 * r.length + 8 from by omega, Nat.pow_add, Nat.mul_add, ← Nat.add_assoc,
      show (2 : Nat) ^ 8 = 256 from rfl, Nat.mul_comm (2 ^ (8 * r.length)) 256, ← Nat.mul_assoc, ← Nat.mul_assoc, Nat.mul_comm 256 b.toNat]

theorem numLE_lt (l : List UInt8) : numLE l < 2 ^ (8 * l.length) := by
  induction l with
  | nil => simp [numLE]
  | cons x r ih =>
    have hx := x.toNat_lt
    rw [numLE, List.length_cons, show 8 * (r.length + 1) = 8 * r.length + 8 from by omega, Nat.pow_add, show (2 : Nat) ^ 8 = 256 from rfl]
    omega

theorem pow_le (k : Nat) (h : k < 8) : 256 * 2 ^ (8 * k) ≤ 18446744073709551616 := by
  have : (2 : Nat) ^ (8 * k) ≤ 2 ^ 56 := Nat.pow_le_pow_right (by decide) (by omega)
  omega

theorem or_step (l : List UInt8) (x : Nat) (hx : x < 256) (h : l.length < 8) :
    bits .or .u64 ((numLE l : Nat) : Int) (IntKind.u64.wrap ((x : Int) * 2 ^ (8 * l.length))) = ((numLE l + x * 2 ^ (8 * l.length) : Nat) : Int) := by
  have hp := pow_le l.length h
  have hl := numLE_lt l
  have hlt : x * 2 ^ (8 * l.length) < 18446744073709551616 := Nat.lt_of_lt_of_le (Nat.mul_lt_mul_of_pos_right hx (Nat.two_pow_pos _)) hp
  have e : ((x : Int) * 2 ^ (8 * l.length)) = ((x * 2 ^ (8 * l.length) : Nat) : Int) := by simp
  rw [e, IntKind.wrap_u64, show ((x * 2 ^ (8 * l.length) : Nat) : Int) % 18446744073709551616 = ((x * 2 ^ (8 * l.length) : Nat) : Int) from Int.emod_eq_of_lt (by omega) (by omega),
    bits_or_u64_nat _ _ (Nat.lt_of_lt_of_le hl (by omega)) hlt, Nat.or_comm, Nat.mul_comm x, ← Nat.two_pow_add_eq_or_of_lt hl, Nat.add_comm]

theorem numLE_bytesLE (n k : Nat) : numLE (bytesLE n k) = n % 2 ^ (8 * k) := by
  induction k generalizing n with
  | zero => simp [bytesLE, numLE, Nat.mod_one]
  | succ k ih =>
    rw [bytesLE, numLE, ih, show 8 * (k + 1) = 8 + 8 * k from by omega, Nat.pow_add, Nat.mod_mul, show (2 : Nat) ^ 8 = 256 from rfl]
    simp

theorem bytesLE_eq (a b k : Nat) : bytesLE a k = bytesLE b k ↔ a % 2 ^ (8 * k) = b % 2 ^ (8 * k) := by
  constructor
  · intro h
    rw [← numLE_bytesLE, ← numLE_bytesLE, h]
  · induction k generalizing a b with
    | zero => intro _; rfl
    | succ k ih =>
      intro h
      rw [show 8 * (k + 1) = 8 + 8 * k from by omega, Nat.pow_add, Nat.mod_mul, Nat.mod_mul, show (2 : Nat) ^ 8 = 256 from rfl] at h
      have h1 : a % 256 < 256 := Nat.mod_lt _ (by decide)
      have h2 : b % 256 < 256 := Nat.mod_lt _ (by decide)
      rw [bytesLE, bytesLE, ih (a / 256) (b / 256) (by omega)]
      congr 1
      apply UInt8.toNat_inj.1
      simp
      omega

theorem joinB (a b : List UInt8) : (⟨a.toArray⟩ : ByteArray) ++ ⟨b.toArray⟩ = ⟨(a ++ b).toArray⟩ := by
  apply ByteArray.ext
  simp [ByteArray.data_append]

end Go.Proofs.Ytmfnapbahkonhaa
