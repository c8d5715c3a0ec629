import Derived.WalkKit
/- A number's lowest bytes. Of no program. -/
set_option linter.unusedVariables false
namespace Go.Proofs.YtkgjmejgkffbdaaGreatDoor
open Go.RowKit

/-- The lowest k bytes of n, the lowest first. -/
def bytesLE (n : Nat) : Nat → List UInt8
  | 0 => []
  | k + 1 => UInt8.ofNat n :: bytesLE (n / 256) k

theorem bytesLE_length (n k : Nat) : (bytesLE n k).length = k := by
  induction k generalizing n with
  | zero => rfl
  | succ k ih => simp [bytesLE, ih]

theorem bytesLE_snoc (n k : Nat) : bytesLE n (k + 1) = bytesLE n k ++ [UInt8.ofNat (n / 2 ^ (8 * k))] := by
  induction k generalizing n with
  | zero => simp [bytesLE]
  | succ k ih =>
    rw [bytesLE, ih, bytesLE, List.cons_append, Nat.div_div_eq_div_mul, show 256 * 2 ^ (8 * k) = 2 ^ (8 * (k + 1)) from by rw [show 8 * (k + 1) = 8 + 8 * k from by omega, Nat.pow_add]]

/-- The eight cells behind k bytes. -/
def putCells (n k : Nat) : List Value := (bytesLE n k).map (fun b => .int .u8 b.toNat) ++ List.replicate (8 - k) (.int .u8 0)

theorem putCells_length (n k : Nat) (h : k ≤ 8) : (putCells n k).length = 8 := by
  simp [putCells, bytesLE_length]; omega

theorem putCells_at (n k : Nat) (h : k < 8) : (putCells n k)[k]? = some (.int .u8 0) := by
  have : ((bytesLE n k).map (fun b : UInt8 => Value.int .u8 b.toNat)).length = k := by simp [bytesLE_length]
  rw [putCells, List.getElem?_append_right (by omega), this, Nat.sub_self]
  simp [List.getElem?_replicate]; omega

theorem ofNat_byte (m : Nat) : ((UInt8.ofNat m).toNat : Int) = (m : Int) % 256 := by
  simp

theorem putCells_set (n k : Nat) (h : k < 8) : (putCells n k).set k (.int .u8 ((n : Int) / 2 ^ (8 * k) % 256)) = putCells n (k + 1) := by
  have hl : ((bytesLE n k).map (fun b : UInt8 => Value.int .u8 b.toNat)).length = k := by simp [bytesLE_length]
  rw [putCells, putCells, bytesLE_snoc, List.map_append, List.set_append_right _ _ (by omega), hl, Nat.sub_self, List.append_assoc]
  congr 1
  rw [show 8 - k = (8 - (k + 1)) + 1 from by omega, List.replicate_succ]
  simp only [List.set_cons_zero, List.map_cons, List.map_nil, List.cons_append, List.nil_append, List.cons.injEq, and_true, Value.int.injEq, true_and]
  rw [ofNat_byte]
  congr 1

theorem putCells_take (n k : Nat) : (putCells n k).take k = (bytesLE n k).map (fun b => Value.int .u8 b.toNat) := by
  have hl : ((bytesLE n k).map (fun b : UInt8 => Value.int .u8 b.toNat)).length = k := by simp [bytesLE_length]
  rw [putCells, List.take_append_of_le_length (by omega), List.take_of_length_le (by omega)]

/-- The number of bytes, the lowest first. -/
def numLE : List UInt8 → Nat
  | [] => 0
  | b :: r => b.toNat + 256 * numLE r

theorem numLE_snoc (l : List UInt8) (b : UInt8) : numLE (l ++ [b]) = numLE l + b.toNat * 2 ^ (8 * l.length) := by
  induction l with
  | nil => simp [numLE]
  | cons x r ih =>
    rw [List.cons_append, numLE, numLE, ih, List.length_cons, show 8 * (r.length + 1) = 8 * r.length + 8 from by omega, Nat.pow_add, Nat.mul_add, ← Nat.add_assoc,
      show (2 : Nat) ^ 8 = 256 from rfl, Nat.mul_comm (2 ^ (8 * r.length)) 256, ← Nat.mul_assoc, ← Nat.mul_assoc, Nat.mul_comm 256 b.toNat]

theorem numLE_lt (l : List UInt8) : numLE l < 2 ^ (8 * l.length) := by
  induction l with
  | nil => simp [numLE]
  | cons x r ih =>
    have hx := x.toNat_lt
    rw [numLE, List.length_cons, show 8 * (r.length + 1) = 8 * r.length + 8 from by omega, Nat.pow_add, show (2 : Nat) ^ 8 = 256 from rfl]
    omega

theorem pow_le (k : Nat) (h : k < 8) : 256 * 2 ^ (8 * k) ≤ 18446744073709551616 := by
  have : (2 : Nat) ^ (8 * k) ≤ 2 ^ 56 := Nat.pow_le_pow_right (by decide) (by omega)
  omega

theorem or_step (l : List UInt8) (x : Nat) (hx : x < 256) (h : l.length < 8) :
    bits .or .u64 ((numLE l : Nat) : Int) (IntKind.u64.wrap ((x : Int) * 2 ^ (8 * l.length))) = ((numLE l + x * 2 ^ (8 * l.length) : Nat) : Int) := by
  have hp := pow_le l.length h
  have hl := numLE_lt l
  have hlt : x * 2 ^ (8 * l.length) < 18446744073709551616 := Nat.lt_of_lt_of_le (Nat.mul_lt_mul_of_pos_right hx (Nat.two_pow_pos _)) hp
  have e : ((x : Int) * 2 ^ (8 * l.length)) = ((x * 2 ^ (8 * l.length) : Nat) : Int) := by simp
  rw [e, IntKind.wrap_u64, show ((x * 2 ^ (8 * l.length) : Nat) : Int) % 18446744073709551616 = ((x * 2 ^ (8 * l.length) : Nat) : Int) from Int.emod_eq_of_lt (by omega) (by omega),
    bits_or_u64_nat _ _ (Nat.lt_of_lt_of_le hl (by omega)) hlt, Nat.or_comm, Nat.mul_comm x, ← Nat.two_pow_add_eq_or_of_lt hl, Nat.add_comm]

theorem numLE_bytesLE (n k : Nat) : numLE (bytesLE n k) = n % 2 ^ (8 * k) := by
  induction k generalizing n with
  | zero => simp [bytesLE, numLE, Nat.mod_one]
  | succ k ih =>
    rw [bytesLE, numLE, ih, show 8 * (k + 1) = 8 + 8 * k from by omega, Nat.pow_add, Nat.mod_mul, show (2 : Nat) ^ 8 = 256 from rfl]
    simp

theorem bytesLE_eq (a b k : Nat) : bytesLE a k = bytesLE b k ↔ a % 2 ^ (8 * k) = b % 2 ^ (8 * k) := by
  constructor
  · intro h
    rw [← numLE_bytesLE, ← numLE_bytesLE, h]
  · induction k generalizing a b with
    | zero => intro _; rfl
    | succ k ih =>
      intro h
      rw [show 8 * (k + 1) = 8 + 8 * k from by omega, Nat.pow_add, Nat.mod_mul, Nat.mod_mul, show (2 : Nat) ^ 8 = 256 from rfl] at h
      have h1 : a % 256 < 256 := Nat.mod_lt _ (by decide)
      have h2 : b % 256 < 256 := Nat.mod_lt _ (by decide)
      rw [bytesLE, bytesLE, ih (a / 256) (b / 256) (by omega)]
      congr 1
      apply UInt8.toNat_inj.1
      simp
      omega

theorem joinB (a b : List UInt8) : (⟨a.toArray⟩ : ByteArray) ++ ⟨b.toArray⟩ = ⟨(a ++ b).toArray⟩ := by
  apply ByteArray.ext
  simp [ByteArray.data_append]

end Go.Proofs.YtkgjmejgkffbdaaGreatDoor
/- The sum of bytes: what half a byte's table does is what four steps of the division do; what was turned within four bytes is told. Of no program. -/
set_option linter.unusedVariables false
namespace Go.Proofs.YtkgjmejgkffbdaaGreatDoor
open Go.RowKit

/-- What four of the sum's steps make of half a byte. -/
def tab4 : List Nat := [0x00000000, 0x105EC76F, 0x20BD8EDE, 0x30E349B1, 0x417B1DBC, 0x5125DAD3, 0x61C69362, 0x7198540D, 0x82F63B78, 0x92A8FC17, 0xA24BB5A6, 0xB21572C9, 0xC38D26C4, 0xD3D3E1AB, 0xE330A81A, 0xF36E6F75]
def at4 (i : Nat) : Nat := tab4.getD i 0

/-- Half a byte's steps. -/
def half (s : Nat) : Nat := s >>> 4 ^^^ at4 (s % 16)
/-- A byte's steps. -/
def full (s : Nat) : Nat := half (half s)

theorem at4_xor : ∀ i, i < 16 → ∀ j, j < 16 → at4 (i ^^^ j) = at4 i ^^^ at4 j := by decide +kernel
theorem at4_lt : ∀ i, i < 16 → at4 i < 4294967296 := by decide +kernel

theorem half_xor (a b : Nat) : half (a ^^^ b) = half a ^^^ half b := by
  have e : (a ^^^ b) % 16 = (a % 16) ^^^ (b % 16) := Nat.xor_mod_two_pow (n := 4)
  unfold half
  rw [Nat.shiftRight_xor_distrib, e, at4_xor _ (Nat.mod_lt _ (by decide)) _ (Nat.mod_lt _ (by decide))]
  simp only [Nat.xor_assoc]
  congr 1
  rw [← Nat.xor_assoc, Nat.xor_comm (b >>> 4), Nat.xor_assoc]

theorem half_lt (s : Nat) (h : s < 4294967296) : half s < 4294967296 := by
  unfold half
  refine Nat.xor_lt_two_pow (n := 32) ?_ (at4_lt _ (Nat.mod_lt _ (by decide)))
  rw [Nat.shiftRight_eq_div_pow]
  omega

theorem half_zero (s : Nat) (h : s < 4294967296) (h0 : half s = 0) : s = 0 := by
  unfold half at h0
  have h1 : s >>> 4 = at4 (s % 16) := by
    have := congrArg (· ^^^ at4 (s % 16)) h0
    simpa [Nat.xor_assoc] using this
  rw [Nat.shiftRight_eq_div_pow] at h1
  have hm : s % 16 < 16 := Nat.mod_lt _ (by decide)
  have hs : s / 2 ^ 4 < 268435456 := by omega
  have hz : ∀ i, i < 16 → at4 i < 268435456 → i = 0 := by decide +kernel
  have h2 : s % 16 = 0 := hz _ hm (h1 ▸ hs)
  have h3 : s / 2 ^ 4 = 0 := by rw [h1, h2]; rfl
  omega

theorem full_xor (a b : Nat) : full (a ^^^ b) = full a ^^^ full b := by unfold full; rw [half_xor, half_xor]
theorem full_lt (s : Nat) (h : s < 4294967296) : full s < 4294967296 := half_lt _ (half_lt _ h)
theorem xor_zero {a b : Nat} (h : a ^^^ b = 0) : a = b := by
  have := congrArg (· ^^^ b) h
  simpa [Nat.xor_assoc] using this
theorem full_inj (a b : Nat) (ha : a < 4294967296) (hb : b < 4294967296) (h : full a = full b) : a = b := by
  apply xor_zero
  have hx : a ^^^ b < 4294967296 := Nat.xor_lt_two_pow (n := 32) ha hb
  exact half_zero _ hx (half_zero _ (half_lt _ hx) (by rw [← full, full_xor, h, Nat.xor_self]))

theorem half_mul (y : Nat) : half (16 * y) = y := by
  unfold half
  rw [Nat.shiftRight_eq_div_pow, Nat.mul_mod_right, show at4 0 = 0 from rfl, Nat.xor_zero]
  omega
theorem full_mul (y : Nat) : full (256 * y) = y := by
  unfold full
  rw [show 256 * y = 16 * (16 * y) from by omega, half_mul, half_mul]

/-- One byte more. -/
def stepB (c : Nat) (b : UInt8) : Nat := full (c ^^^ b.toNat)
/-- The state behind bytes. -/
def crc (l : List UInt8) (c : Nat) : Nat := l.foldl stepB c
/-- The sum. -/
def sumOf (l : List UInt8) : Nat := 4294967295 - crc l 4294967295

theorem crc_append (l m : List UInt8) (c : Nat) : crc (l ++ m) c = crc m (crc l c) := List.foldl_append ..
theorem stepB_lt (c : Nat) (b : UInt8) (h : c < 4294967296) : stepB c b < 4294967296 :=
  full_lt _ (Nat.xor_lt_two_pow (n := 32) h (Nat.lt_trans b.toNat_lt (by decide)))
theorem crc_lt (l : List UInt8) (c : Nat) (h : c < 4294967296) : crc l c < 4294967296 := by
  induction l generalizing c with
  | nil => exact h
  | cons x r ih => exact ih _ (stepB_lt c x h)
theorem xor_left_inj' {a b c : Nat} (h : a ^^^ c = b ^^^ c) : a = b := by
  have := congrArg (· ^^^ c) h
  simpa [Nat.xor_assoc] using this
theorem xor_right_inj' {a b c : Nat} (h : c ^^^ a = c ^^^ b) : a = b := by
  rw [Nat.xor_comm c a, Nat.xor_comm c b] at h
  exact xor_left_inj' h
theorem crc_inj (l : List UInt8) (c d : Nat) (hc : c < 4294967296) (hd : d < 4294967296) (h : crc l c = crc l d) : c = d := by
  induction l generalizing c d with
  | nil => exact h
  | cons x r ih =>
    have hx : x.toNat < 4294967296 := Nat.lt_trans x.toNat_lt (by decide)
    exact xor_left_inj' (full_inj _ _ (Nat.xor_lt_two_pow (n := 32) hc hx) (Nat.xor_lt_two_pow (n := 32) hd hx) (ih _ _ (stepB_lt c x hc) (stepB_lt d x hd) h))

theorem byte_xor (b m : Nat) (h : b < 256) : b ^^^ 256 * m = b + 256 * m := by
  apply Nat.eq_of_testBit_eq
  intro i
  rw [Nat.testBit_xor, Nat.add_comm, show (256 : Nat) = 2 ^ 8 from rfl, Nat.testBit_two_pow_mul_add m h, Nat.testBit_two_pow_mul]
  by_cases hi : i < 8
  · simp [hi, Nat.not_le.2 hi]
  · rw [if_neg hi, Nat.testBit_lt_two_pow (show b < 2 ^ i from Nat.lt_of_lt_of_le (show b < 2 ^ 8 from h) (Nat.pow_le_pow_right (by decide) (by omega)))]
    simp [Nat.not_lt.1 hi]

/-- Bytes all at once. -/
def fulls : Nat → Nat → Nat
  | 0, x => x
  | n + 1, x => fulls n (full x)
theorem crc_fulls (l : List UInt8) (c : Nat) : crc l c = fulls l.length (c ^^^ numLE l) := by
  induction l generalizing c with
  | nil => simp [crc, fulls, numLE]
  | cons x r ih =>
    show crc r (stepB c x) = _
    rw [ih, List.length_cons, fulls, numLE, ← byte_xor _ _ x.toNat_lt, ← Nat.xor_assoc, full_xor (c ^^^ x.toNat), full_mul]
    rfl
theorem fulls_inj (n a b : Nat) (ha : a < 4294967296) (hb : b < 4294967296) (h : fulls n a = fulls n b) : a = b := by
  induction n generalizing a b with
  | zero => exact h
  | succ n ih => exact full_inj _ _ ha hb (ih _ _ (full_lt _ ha) (full_lt _ hb) h)

theorem compl_xor (x : Nat) (h : x < 4294967296) : 4294967295 - x = x ^^^ 4294967295 := by
  apply Nat.eq_of_testBit_eq
  intro i
  rw [Nat.testBit_xor, show (4294967295 : Nat) = 2 ^ 32 - 1 from rfl, Nat.testBit_two_pow_sub_one, show 2 ^ 32 - 1 - x = 2 ^ 32 - (x + 1) from by omega, Nat.testBit_two_pow_sub_succ h]
  by_cases hi : i < 32
  · simp [hi]
  · rw [Nat.testBit_lt_two_pow (show x < 2 ^ i from Nat.lt_of_lt_of_le (show x < 2 ^ 32 from h) (Nat.pow_le_pow_right (by decide) (by omega)))]
    simp [hi]

theorem sumOf_lt (l : List UInt8) : sumOf l < 4294967296 := by unfold sumOf; omega
theorem sumOf_xor (l : List UInt8) : sumOf l = crc l 4294967295 ^^^ 4294967295 := compl_xor _ (crc_lt _ _ (by decide))

/-- Four bytes behind a text are its sum's just where the state behind all is this one. -/
theorem opened_iff (t q : List UInt8) (hq : q.length = 4) : numLE q = sumOf t ↔ crc (t ++ q) 4294967295 = fulls 4 4294967295 := by
  have hl : numLE q < 4294967296 := by have := numLE_lt q; rwa [hq] at this
  have hc : crc t 4294967295 < 4294967296 := crc_lt _ _ (by decide)
  rw [crc_append, crc_fulls q, hq, sumOf_xor]
  constructor
  · intro h
    rw [h, ← Nat.xor_assoc, Nat.xor_self, Nat.zero_xor]
  · intro h
    have := fulls_inj 4 _ _ (Nat.xor_lt_two_pow (n := 32) hc hl) (by decide) h
    apply xor_right_inj' (c := crc t 4294967295)
    rw [this, ← Nat.xor_assoc, Nat.xor_self, Nat.zero_xor]

/-- Four bytes in the middle. -/
theorem window (p q r s : List UInt8) (hq : q.length = 4) (hr : r.length = 4) : crc (p ++ q ++ s) 4294967295 = crc (p ++ r ++ s) 4294967295 ↔ numLE q = numLE r := by
  have hlq : numLE q < 4294967296 := by have := numLE_lt q; rwa [hq] at this
  have hlr : numLE r < 4294967296 := by have := numLE_lt r; rwa [hr] at this
  have hc : crc p 4294967295 < 4294967296 := crc_lt _ _ (by decide)
  simp only [crc_append]
  constructor
  · intro h
    have h1 := crc_inj s _ _ (crc_lt _ _ hc) (crc_lt _ _ hc) h
    rw [crc_fulls q, crc_fulls r, hq, hr] at h1
    exact xor_right_inj' (fulls_inj 4 _ _ (Nat.xor_lt_two_pow (n := 32) hc hlq) (Nat.xor_lt_two_pow (n := 32) hc hlr) h1)
  · intro h
    rw [crc_fulls q, crc_fulls r, hq, hr, h]

theorem parts (a b : List UInt8) (x y : UInt8) : sumOf (a ++ [x] ++ b) = sumOf (a ++ [y] ++ b) ↔ x = y := by
  constructor
  · intro h
    have hc : crc a 4294967295 < 4294967296 := crc_lt _ _ (by decide)
    have h0 := crc_lt (a ++ [x] ++ b) 4294967295 (by decide)
    have h1 := crc_lt (a ++ [y] ++ b) 4294967295 (by decide)
    have h2 : crc (a ++ [x] ++ b) 4294967295 = crc (a ++ [y] ++ b) 4294967295 := by unfold sumOf at h; omega
    simp only [crc_append] at h2
    have h3 := crc_inj b _ _ (crc_lt _ _ hc) (crc_lt _ _ hc) h2
    have hx : x.toNat < 4294967296 := Nat.lt_trans x.toNat_lt (by decide)
    have hy : y.toNat < 4294967296 := Nat.lt_trans y.toNat_lt (by decide)
    exact UInt8.toNat_inj.1 (xor_right_inj' (full_inj _ _ (Nat.xor_lt_two_pow (n := 32) hc hx) (Nat.xor_lt_two_pow (n := 32) hc hy) h3))
  · rintro rfl; rfl

/-! ### Bit by bit -/
/-- One step. -/
def bitS (c : Nat) : Nat := if c % 2 = 1 then c >>> 1 ^^^ 0x82F63B78 else c >>> 1
def bitSs : Nat → Nat → Nat
  | 0, x => x
  | n + 1, x => bitS (bitSs n x)
def pol (b : Nat) : Nat := if b = 1 then 0x82F63B78 else 0
theorem bitS_pol (c : Nat) : bitS c = c >>> 1 ^^^ pol (c % 2) := by
  unfold bitS pol
  split <;> simp
theorem pol_xor : ∀ i, i < 2 → ∀ j, j < 2 → pol (i ^^^ j) = pol i ^^^ pol j := by decide +kernel
theorem bitS_xor (a b : Nat) : bitS (a ^^^ b) = bitS a ^^^ bitS b := by
  have e : (a ^^^ b) % 2 = (a % 2) ^^^ (b % 2) := Nat.xor_mod_two_pow (n := 1)
  rw [bitS_pol, bitS_pol, bitS_pol, Nat.shiftRight_xor_distrib, e, pol_xor _ (Nat.mod_lt _ (by decide)) _ (Nat.mod_lt _ (by decide))]
  simp only [Nat.xor_assoc]
  congr 1
  rw [← Nat.xor_assoc, Nat.xor_comm (b >>> 1), Nat.xor_assoc]
theorem bitSs_xor (n a b : Nat) : bitSs n (a ^^^ b) = bitSs n a ^^^ bitSs n b := by
  induction n with
  | zero => rfl
  | succ n ih => rw [bitSs, ih, bitS_xor]; rfl
theorem bitS_two (y : Nat) : bitS (2 * y) = y := by
  unfold bitS
  rw [if_neg (by omega), Nat.shiftRight_eq_div_pow]
  omega
theorem nib_xor (r m : Nat) (h : r < 16) : r ^^^ 16 * m = r + 16 * m := by
  apply Nat.eq_of_testBit_eq
  intro i
  rw [Nat.testBit_xor, Nat.add_comm, show (16 : Nat) = 2 ^ 4 from rfl, Nat.testBit_two_pow_mul_add m h, Nat.testBit_two_pow_mul]
  by_cases hi : i < 4
  · simp [hi, Nat.not_le.2 hi]
  · rw [if_neg hi, Nat.testBit_lt_two_pow (show r < 2 ^ i from Nat.lt_of_lt_of_le (show r < 2 ^ 4 from h) (Nat.pow_le_pow_right (by decide) (by omega)))]
    simp [Nat.not_lt.1 hi]
theorem four_small : ∀ r, r < 16 → bitSs 4 r = at4 r := by decide +kernel
theorem four_steps (s : Nat) : bitSs 4 s = half s := by
  have hs : s = s % 16 ^^^ 16 * (s / 16) := by rw [nib_xor _ _ (Nat.mod_lt _ (by decide))]; omega
  have h4 : bitSs 4 (16 * (s / 16)) = s / 16 := by
    simp only [bitSs]
    rw [show 16 * (s / 16) = 2 * (2 * (2 * (2 * (s / 16)))) from by omega, bitS_two, bitS_two, bitS_two, bitS_two]
  conv => lhs; rw [hs]
  rw [bitSs_xor, h4, four_small _ (Nat.mod_lt _ (by decide)), half, Nat.shiftRight_eq_div_pow, Nat.xor_comm]
theorem bitSs_add (m n x : Nat) : bitSs (m + n) x = bitSs m (bitSs n x) := by
  induction m with
  | zero => simp [bitSs]
  | succ m ih => rw [show m + 1 + n = (m + n) + 1 from by omega, bitSs, ih]; rfl
theorem eight_steps (s : Nat) : bitSs 8 s = full s := by
  rw [show 8 = 4 + 4 from rfl, bitSs_add, four_steps, four_steps]; rfl

/-- The reference's state within a byte: the byte's bits are taken one by one. -/
def within (c b k : Nat) : Nat := bitSs k (c ^^^ b) ^^^ b >>> k
theorem within_zero (c b : Nat) : within c b 0 = c := by simp [within, bitSs, Nat.xor_assoc]
theorem within_eight (c b : Nat) (h : b < 256) : within c b 8 = full (c ^^^ b) := by
  rw [within, eight_steps, Nat.shiftRight_eq_div_pow, Nat.div_eq_of_lt h, Nat.xor_zero]
theorem within_bit (c b k : Nat) : (within c b k % 2) ^^^ (b >>> k % 2) = bitSs k (c ^^^ b) % 2 := by
  have e : (bitSs k (c ^^^ b) ^^^ b >>> k) % 2 = (bitSs k (c ^^^ b) % 2) ^^^ (b >>> k % 2) := Nat.xor_mod_two_pow (n := 1)
  rw [within, e, Nat.xor_assoc, Nat.xor_self, Nat.xor_zero]
theorem within_succ (c b k : Nat) : within c b (k + 1) = within c b k >>> 1 ^^^ pol ((within c b k % 2) ^^^ (b >>> k % 2)) := by
  rw [within_bit]
  unfold within
  rw [bitSs, bitS_pol, Nat.shiftRight_xor_distrib, Nat.shiftRight_add, Nat.xor_assoc, Nat.xor_assoc]
  congr 1
  exact Nat.xor_comm ..
theorem bitS_lt (c : Nat) (h : c < 4294967296) : bitS c < 4294967296 := by
  rw [bitS_pol]
  refine Nat.xor_lt_two_pow (n := 32) ?_ ?_
  · rw [Nat.shiftRight_eq_div_pow]; omega
  · unfold pol; split <;> decide
theorem bitSs_lt (k c : Nat) (h : c < 4294967296) : bitSs k c < 4294967296 := by
  induction k with
  | zero => exact h
  | succ k ih => exact bitS_lt _ ih
theorem within_lt (c b k : Nat) (hc : c < 4294967296) (hb : b < 256) : within c b k < 4294967296 := by
  refine Nat.xor_lt_two_pow (n := 32) (bitSs_lt _ _ (Nat.xor_lt_two_pow (n := 32) hc (by omega))) ?_
  rw [Nat.shiftRight_eq_div_pow]
  have := Nat.div_le_self b (2 ^ k)
  omega

end Go.Proofs.YtkgjmejgkffbdaaGreatDoor
/- What was turned within four bytes. Of no program. -/
set_option linter.unusedVariables false
namespace Go.Proofs.YtkgjmejgkffbdaaGreatDoor
open Go.RowKit

/-- The first i of four bytes from k on are turned by m's bytes. -/
def turn (t : List UInt8) (k m i : Nat) : List UInt8 := t.take k ++ (List.zipWith (· ^^^ ·) ((t.drop k).take i) (bytesLE m i) ++ t.drop (k + i))

theorem turn_zero (t : List UInt8) (k m : Nat) : turn t k m 0 = t := by simp [turn, bytesLE]

theorem turn_split (t : List UInt8) (k m i : Nat) (h : k + i < t.length) : ∃ p d, p.length = k + i ∧ turn t k m i = p ++ t[k + i] :: d ∧ turn t k m (i + 1) = p ++ (t[k + i] ^^^ UInt8.ofNat (m / 2 ^ (8 * i))) :: d := by
  have hi : i < (t.drop k).length := by rw [List.length_drop]; omega
  have hg : (t.drop k)[i] = t[k + i] := List.getElem_drop ..
  have hz : ((t.drop k).take i).length = (bytesLE m i).length := by rw [bytesLE_length, List.length_take, List.length_drop]; omega
  refine ⟨t.take k ++ List.zipWith (· ^^^ ·) ((t.drop k).take i) (bytesLE m i), t.drop (k + (i + 1)), ?_, ?_, ?_⟩
  · rw [List.length_append, List.length_zipWith, bytesLE_length, List.length_take, List.length_take, List.length_drop]; omega
  · rw [turn, List.append_assoc, List.drop_eq_getElem_cons h]
    rfl
  · rw [turn, List.take_succ_eq_append_getElem hi, bytesLE_snoc, List.zipWith_append hz, hg]
    simp

theorem zip_xor (q r : List UInt8) (h : q.length = r.length) : numLE (List.zipWith (· ^^^ ·) q r) = numLE q ^^^ numLE r := by
  induction q generalizing r with
  | nil => cases r with
    | nil => rfl
    | cons y r => simp at h
  | cons x q ih => cases r with
    | nil => simp at h
    | cons y r =>
      have hx := x.toNat_lt
      have hy := y.toNat_lt
      have hxy : x.toNat ^^^ y.toNat < 256 := Nat.xor_lt_two_pow (n := 8) hx hy
      have e : ∀ a b : Nat, 256 * (a ^^^ b) = 256 * a ^^^ 256 * b := fun a b => by
        have := Nat.shiftLeft_xor_distrib (a := a) (b := b) (i := 8)
        simpa [Nat.shiftLeft_eq, Nat.mul_comm] using this
      rw [List.zipWith_cons_cons, numLE, numLE, numLE, UInt8.toNat_xor, ih r (by simpa using h), ← byte_xor _ _ hxy, ← byte_xor _ _ hx, ← byte_xor _ _ hy, e]
      simp only [Nat.xor_assoc]
      congr 1
      rw [← Nat.xor_assoc, Nat.xor_comm y.toNat, Nat.xor_assoc]

theorem turn_four (t : List UInt8) (k m : Nat) (h : k + 4 ≤ t.length) (hm : m < 4294967296) : ∃ p q q' r, t = p ++ q ++ r ∧ turn t k m 4 = p ++ q' ++ r ∧ q.length = 4 ∧ q'.length = 4 ∧ numLE q' = numLE q ^^^ m := by
  have hq : ((t.drop k).take 4).length = 4 := by rw [List.length_take, List.length_drop]; omega
  refine ⟨t.take k, (t.drop k).take 4, List.zipWith (· ^^^ ·) ((t.drop k).take 4) (bytesLE m 4), t.drop (k + 4), ?_, ?_, hq, ?_, ?_⟩
  · rw [← List.drop_drop, List.append_assoc, List.take_append_drop, List.take_append_drop]
  · rw [turn, List.append_assoc]
  · rw [List.length_zipWith, hq, bytesLE_length]; rfl
  · rw [zip_xor _ _ (by rw [hq, bytesLE_length]), numLE_bytesLE]
    congr 1
    exact Nat.mod_eq_of_lt hm

theorem xor_self_iff (a m : Nat) : a ^^^ m = a ↔ m = 0 := by
  constructor
  · intro h
    exact xor_right_inj' (c := a) (by rw [h, Nat.xor_zero])
  · rintro rfl; exact Nat.xor_zero _
end Go.Proofs.YtkgjmejgkffbdaaGreatDoor
