/- CastleParts of layer 2: the walk: it returns true for every input and writes nothing that was there. -/
import Derived.Test.YtklgadhdcnmgpaaDoorAw2
import Derived.OpenShut
set_option linter.unusedVariables false
namespace Go.Proofs.YtklgadhdcnmgpaaDoor
open Go.RowKit

/-- 'string([]byte{x})'. -/
theorem conv_one (x : UInt8) (g : Nat) (w : World) (h : w.heap[g]? = some (.cells #[.int .u8 x.toNat] 5 (0, 0))) :
    (convert 29 9 (.slice (some ⟨g, 0, none⟩) 1 1)).run Tryd.prog w = .ok (.string ⟨[x].toArray⟩) w := by
  refine run_convert_bytes_back (P := Tryd.prog) w 29 9 5 ⟨g, 0, none⟩ 1 [x] (by kernel_rfl) (by kernel_rfl) (by kernel_rfl) ?_
  intro j hj
  have hadd : (⟨g, 0, none⟩ : Addr).add j = ⟨g, j, none⟩ := by unfold Addr.add; split <;> simp_all
  obtain rfl : j = 0 := by simp at hj; exact hj
  rw [hadd, Lib.cell_of_heap h]
  rfl

set_option maxHeartbeats 1000000 in
set_option maxRecDepth 100000 in
theorem partsL (a b : List UInt8) (x y : UInt8) (w : World) (hT : Tab w) (ha : (a.length : Int) ≤ 9223372036854775807) (hb : (b.length : Int) ≤ 9223372036854775807) :
    Calls Tryd.prog 5 #[.string ⟨a.toArray⟩, .string ⟨b.toArray⟩, .int .u8 x.toNat, .int .u8 y.toNat] w fun e w' => e = .returned (.bool true) ∧ KeptIn (· < w.heap.size) w w' := by
  have HT := Lib.hid hT
  clear hT
  go_enter Tryd.func5, Tryd.ntmps5
  go_wp2_with fail
  refine (awake2 w HT.out).mono ?_
  rintro e w1 ⟨rfl, k1⟩
  have T1 := Lib.hid (HT.out.kept k1 HT.out.lt)
  have K1 := Lib.hid k1
  clear k1
  by_cases h1 : 512 < (a.length : Int)
  · go_wp2
    go_ret
    exact ⟨rfl, K1.out⟩
  by_cases h2 : 512 < (b.length : Int)
  · go_wp2
    go_ret
    exact ⟨rfl, K1.out⟩
  have c1 := conv_one x w1.heap.size (w1.alloc (.cells #[.int .u8 x.toNat] 5)) (heap_alloc_new w1 _)
  have c2 := conv_one y (w1.heap.size + 1) ((w1.alloc (.cells #[.int .u8 x.toNat] 5)).alloc (.cells #[.int .u8 y.toNat] 5)) (by
    have := heap_alloc_new (w1.alloc (.cells #[.int .u8 x.toNat] 5)) (.cells #[.int .u8 y.toNat] 5)
    simpa using this)
  have l1 : ¬ 9223372036854775807 < a.length + 1 := by omega
  have l2 : ¬ 9223372036854775807 < a.length + 1 + b.length := by omega
  go_wp2_with fail
  have ex : ∀ z : UInt8, ((⟨a.toArray⟩ : ByteArray) ++ ⟨#[z]⟩ ++ ⟨b.toArray⟩) = ⟨(a ++ z :: b).toArray⟩ := fun z => by
    apply ByteArray.ext
    simp
  have hlen : ∀ z : UInt8, (a ++ z :: b).length ≤ 2147483647 := fun z => by simp; omega
  have K2 : Hid (KeptIn (· < w.heap.size) w ((w1.alloc (.cells #[.int .u8 x.toNat] 5)).alloc (.cells #[.int .u8 y.toNat] 5))) := Lib.hid ((K1.out.alloc (fun _ h => h) _).alloc (fun _ h => h) _)
  have T2 := Lib.hid (HT.out.kept K2.out HT.out.lt)
  generalize (w1.alloc (.cells #[.int .u8 x.toNat] 5)).alloc (.cells #[.int .u8 y.toNat] 5) = w2 at *
  have P : Hid (sumOf (a ++ x :: b) = sumOf (a ++ y :: b) ↔ x = y) := Lib.hid (by have := parts a b x y; simpa only [List.append_assoc, List.singleton_append] using this)
  rw [ex x]
  refine (castleSum _ w2 T2.out (hlen x)).mono ?_
  rintro e _ ⟨rfl, rfl⟩
  have EY := Lib.hid (ex y)
  have HY := Lib.hid (hlen y)
  clear ex hlen c1 c2
  go_wp2_with fail
  rw [EY.out]
  refine (castleSum _ w2 T2.out HY.out).mono ?_
  rintro e _ ⟨rfl, rfl⟩
  generalize sumOf (a ++ x :: b) = s at *
  generalize sumOf (a ++ y :: b) = t at *
  by_cases hxy : x = y
  · subst hxy
    obtain rfl : s = t := P.out.2 rfl
    go_wp2
    go_ret
    refine ⟨?_, K2.out⟩
    simp
  · have hst : ¬ s = t := fun h => hxy (P.out.1 h)
    have hxy' : ((x.toNat : Int) == (y.toNat : Int)) = false := by
      rw [beq_eq_false_iff_ne]
      intro h
      exact hxy (UInt8.toNat_inj.1 (by omega))
    have hst' : ((s : Int) == (t : Int)) = false := by
      rw [beq_eq_false_iff_ne]
      omega
    clear hxy hst
    go_wp2
    go_ret
    exact ⟨rfl, K2.out⟩

theorem partsW (s t : ByteArray) (x y : Int) (w : World) (ws : s.size ≤ maxLen) (wt : t.size ≤ maxLen) (wx : (Lit.int .u8 x).wf = true) (wy : (Lit.int .u8 y).wf = true) (hT : Tab w) :
    Calls Tryd.prog 5 #[.string s, .string t, .int .u8 x, .int .u8 y] w fun e w' => e = .returned (.bool true) ∧ KeptIn (· < w.heap.size) w w' := by
  have bx := bounds_u8 wx
  have by' := bounds_u8 wy
  have hx : ((UInt8.ofNat x.toNat).toNat : Int) = x := by rw [ofNat_byte]; omega
  have hy : ((UInt8.ofNat y.toNat).toNat : Int) = y := by rw [ofNat_byte]; omega
  have := partsL s.data.toList t.data.toList (UInt8.ofNat x.toNat) (UInt8.ofNat y.toNat) w hT
    (by rw [Array.length_toList]; have : s.data.size ≤ maxLen := ws; unfold maxLen at this; omega) (by rw [Array.length_toList]; have : t.data.size ≤ maxLen := wt; unfold maxLen at this; omega)
  rwa [Lib.mk_data, Lib.mk_data, hx, hy] at this

end Go.Proofs.YtklgadhdcnmgpaaDoor
