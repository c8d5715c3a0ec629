import Derived.Test.YtkgjmejgkffbdaaGreatDoorM8
import Derived.Test.YtkgjmejgkffbdaaGreatDoorArgs
/- The document's answers for layer 1, as functions of this program. -/
set_option linter.unusedVariables false
namespace Go.Proofs.YtkgjmejgkffbdaaGreatDoor
open Go.RowKit

theorem rsize (n : Int) (w : World) : Calls Tryz.prog 89 #[.int .i64 n] w fun e w' => e = .returned (.int .i64 (min (max n 1) 8)) ∧ w = w' := by
  go_enter Tryz.func89, Tryz.ntmps89
  go_wp2
  go_ret
  exact ⟨rfl, rfl⟩

/-- The number of at most eight bytes, counted from the last on. -/
theorem rnumber (t : List UInt8) (ht : t.length ≤ 8) (w : World) : Calls Tryz.prog 56 #[.string ⟨t.toArray⟩] w fun e w' => e = .returned (.int .u64 (numLE t)) ∧ w = w' := by
  have hl0 : (0 : Int) ≤ (t.length : Int) := by omega
  have hl8 : (t.length : Int) ≤ 8 := by omega
  go_enter Tryz.func56, Tryz.ntmps56
  go_wp2_with fail
  go_loop [3, 4] (fun n c => ∃ j : Nat, j ≤ t.length ∧ c = .int .i64 ((j : Int) - 1) ∧ n = .int .u64 (numLE (t.drop j))) (fun _ c => ((intOf c) + 1).toNat)
  case atStart => exact ⟨t.length, Nat.le_refl _, rfl, by rw [List.drop_length]; rfl⟩
  case round =>
    obtain ⟨j, hj, rfl, rfl⟩ := hrel
    by_cases h0 : 1 ≤ j
    · obtain ⟨i, rfl⟩ : ∃ i, j = i + 1 := ⟨j - 1, by omega⟩
      have hi : i < t.length := by omega
      have hstep : numLE (t.drop i) = t[i].toNat + 256 * numLE (t.drop (i + 1)) := by rw [List.drop_eq_getElem_cons hi, numLE]
      have hlt := numLE_lt (t.drop i)
      have hlt2 : numLE (t.drop i) < 18446744073709551616 := by
        refine Nat.lt_of_lt_of_le hlt ?_
        have : (2 : Nat) ^ (8 * (t.drop i).length) ≤ 2 ^ 64 := Nat.pow_le_pow_right (by decide) (by rw [List.length_drop]; omega)
        exact this
      obtain ⟨x, hx⟩ : ∃ x : Nat, t[i].toNat = x := ⟨_, rfl⟩
      rw [hx] at hstep
      obtain ⟨m, hm⟩ : ∃ m : Nat, numLE (t.drop (i + 1)) = m := ⟨_, rfl⟩
      rw [hm] at hstep
      have e1 : ((i + 1 : Nat) : Int) - 1 = (i : Int) := by omega
      rw [e1, hm]
      have i0 : (0 : Int) ≤ (i : Int) := by omega
      have i1 : (i : Int) < (t.length : Int) := by omega
      have m0 : (0 : Int) ≤ (m : Int) := by omega
      have m1 : (m : Int) * 256 + (x : Int) ≤ 18446744073709551615 := by omega
      have hval : IntKind.u64.wrap ((m : Int) * 256 + IntKind.u64.wrap ((t[i].toNat : Nat) : Int)) = ((numLE (t.drop i) : Nat) : Int) := by
        rw [hx, hstep, IntKind.wrap_u64, IntKind.wrap_u64]
        omega
      have HST := Lib.hid hval
      clear hval hx hstep hlt hlt2 hm e1
      go_wp2_with fail
      go_round
      case rel => exact ⟨i, by omega, rfl, congrArg (Value.int .u64) HST.out⟩
      case measure => simp [intOf] <;> omega
    · obtain rfl : j = 0 := by omega
      go_wp2_with fail
      go_ret
      exact ⟨rfl, rfl⟩

/-- 'string(out)' of bytes that the call has appended itself. -/
theorem conv_own (B : Nat) (v : Value) (l : List UInt8) (w : World) (h : w.ownsRow B 5 1 v l.length (Lib.byteCells l)) (hl : l ≠ []) :
    (convert 77 9 v).run Tryz.prog w = .ok (.string ⟨l.toArray⟩) w := by
  rcases h.2 with ⟨rfl, h0⟩ | ⟨g, cap, cur, rfl, _, hg, _, _, hcs, htake⟩
  · exact absurd (List.length_eq_zero_iff.1 h0) hl
  · refine run_convert_bytes_back (P := Tryz.prog) w 77 9 5 ⟨g, 0, none⟩ cap l (by kernel_rfl) (by kernel_rfl) (by kernel_rfl) ?_
    intro j hj
    have hadd : (⟨g, 0, none⟩ : Addr).add j = ⟨g, j, none⟩ := by unfold Addr.add; split <;> simp_all
    rw [hadd, Lib.cell_of_heap hg]
    have : (cur.toList.take (l.length * 1))[j]? = some (.int .u8 (l[j].toNat : Int)) := by rw [htake]; simp [Lib.byteCells, hj]
    rw [List.getElem?_take] at this
    split at this
    · simpa using this
    · cases this

/-- A number's lowest bytes, one appended behind the other. -/
theorem rbytes (n : Nat) (size : Int) (w : World) (hn : n < 18446744073709551616) :
    Calls Tryz.prog 61 #[.int .u64 n, .int .i64 size] w fun e w' => e = .returned (.string ⟨(bytesLE n (min (max size 1) 8).toNat).toArray⟩) ∧ KeptIn (· < w.heap.size) w w' := by
  obtain ⟨k, hk, hk1, hk8⟩ : ∃ k : Nat, min (max size 1) 8 = (k : Int) ∧ 1 ≤ k ∧ k ≤ 8 := ⟨(min (max size 1) 8).toNat, by omega, by omega, by omega⟩
  have hs : ∀ W, Calls Tryz.prog 89 #[.int .i64 size] W fun e w' => e = .returned (.int .i64 (k : Int)) ∧ W = w' := fun W => (rsize size W).mono fun e w' ⟨h, h'⟩ => ⟨by rw [h, hk], h'⟩
  rw [hk, Int.toNat_natCast]
  have HSZ := Lib.hid hs
  clear hs hk
  go_enter Tryz.func61, Tryz.ntmps61
  go_wp2_with fail
  have h0 : (w.alloc (.cells #[] 5)).ownsRow w.heap.size 5 1 (.slice (some ⟨w.heap.size, 0, none⟩) 0 0) (bytesLE n 0).length (Lib.byteCells (bytesLE n 0)) :=
    ⟨rfl, .inr ⟨w.heap.size, 0, #[], rfl, Nat.le_refl _, heap_alloc_new w _, Nat.le_refl _, Nat.zero_le _, rfl, rfl⟩⟩
  have H0 : Hid ((w.alloc (.cells #[] 5)).ownsRow w.heap.size 5 1 (.slice (some ⟨w.heap.size, 0, none⟩) 0 0) (bytesLE n 0).length (Lib.byteCells (bytesLE n 0)) ∧ KeptIn (· < w.heap.size) w (w.alloc (.cells #[] 5))) := Lib.hid ⟨h0, (KeptIn.refl _ _).alloc (fun _ h => h) _⟩
  clear h0
  go_loopw [5, 6] (fun v c W => ∃ (j : Nat) (W' : World), W' = W ∧ j ≤ k ∧ c = .int .i64 j ∧ Hid (W.ownsRow w.heap.size 5 1 v (bytesLE n j).length (Lib.byteCells (bytesLE n j)) ∧ KeptIn (· < w.heap.size) w W)) (fun _ c _ => k - (intOf c).toNat)
  case atStart => exact ⟨0, _, rfl, Nat.zero_le _, rfl, H0⟩
  case round =>
    obtain ⟨j, W, rfl, hj, rfl, HJ⟩ := hrel
    clear H0
    by_cases hlt : j < k
    · have i0 : (0 : Int) ≤ (j : Int) := by omega
      have i1 : (j : Int) < (k : Int) := by omega
      have i2 : (j : Int) < 8 := by omega
      go_wp2_with fail
      refine (HSZ.out _).mono ?_
      rintro e _ ⟨rfl, rfl⟩
      obtain ⟨i0', hi, hz0, hz1, hz2⟩ := info_parts Tryz.Builder_Extra_105.infoByte
      go_wp2_with (at_builtin; go_must (refine wpList_append_own _ rfl _ _ 77 rfl w.heap.size 5 i0' (.int .u8 0) 1 1 (by kernel_rfl) hi hz0 hz1 hz2 rfl (by decide) _ _ _ rfl (HJ.out.1.alloc _) ⟨W.heap.size, 0, none⟩ 1 1 [.int .u8 ((n : Int) / 2 ^ (8 * j) % 256)] rfl rfl ?c1 ?c2 ?c3 ?c4 ?c5 ?_))
      case c1 => exact cell_one_new _ _ _
      case c2 => intro u hu; simp at hu; subst hu; rfl
      case c3 => unfold maxLen; rw [bytesLE_length]; omega
      case c4 => rw [bytesLE_length]; omega
      case c5 => have := HJ.out.2.size; simp; omega
      intro v' w2 hown' hgrow _
      have hnew : w2.ownsRow w.heap.size 5 1 v' (bytesLE n (j + 1)).length (Lib.byteCells (bytesLE n (j + 1))) := by
        have e1 : (bytesLE n (j + 1)).length = (bytesLE n j).length + 1 := by rw [bytesLE_length, bytesLE_length]
        have e2 : Lib.byteCells (bytesLE n (j + 1)) = Lib.byteCells (bytesLE n j) ++ [.int .u8 ((n : Int) / 2 ^ (8 * j) % 256)] := by
          rw [bytesLE_snoc, Lib.byteCells_append]
          congr 1
        rw [e1, e2]
        exact hown'
      have hk2 : KeptIn (· < w.heap.size) w w2 := by
        refine (HJ.out.2.alloc (fun _ h => h) _).grown (fun _ h => h) hgrow ?_
        intro g hg hx
        have := (HJ.out.1.lt g hg).1
        omega
      have H2 : Hid (w2.ownsRow w.heap.size 5 1 v' (bytesLE n (j + 1)).length (Lib.byteCells (bytesLE n (j + 1))) ∧ KeptIn (· < w.heap.size) w w2) := Lib.hid ⟨hnew, hk2⟩
      clear hown' hgrow hnew hk2 HJ hi hz0 hz1 hz2
      go_wp2_with fail
      go_roundw
      case rel => exact ⟨j + 1, _, rfl, by omega, by go_num, H2⟩
      case measure => simp [intOf]; omega
    · obtain rfl : j = k := by omega
      go_wp2_with fail
      refine (HSZ.out _).mono ?_
      rintro e _ ⟨rfl, rfl⟩
      have hconv := conv_own _ _ _ _ HJ.out.1 (by intro e; have := congrArg List.length e; simp [bytesLE_length] at this; omega)
      go_wp2_with fail
      go_ret
      exact ⟨rfl, HJ.out.2⟩


end Go.Proofs.YtkgjmejgkffbdaaGreatDoor
