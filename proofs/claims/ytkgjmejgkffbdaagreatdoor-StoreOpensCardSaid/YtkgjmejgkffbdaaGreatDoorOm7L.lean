import Derived.Test.YtkgjmejgkffbdaaGreatDoorSoL
import Derived.Test.YtkgjmejgkffbdaaGreatDoorSgL
import Derived.Test.YtkgjmejgkffbdaaGreatDoorRef6nL
import Derived.Test.YtkgjmejgkffbdaaGreatDoorRef5cL
import Derived.Test.YtkgjmejgkffbdaaGreatDoorSrL
import Derived.Test.YtkgjmejgkffbdaaGreatDoorAw7L
/- StoreOpens of layer 7: bytes of a device: the mathematics. -/
set_option linter.unusedVariables false
namespace Go.Proofs.YtkgjmejgkffbdaaGreatDoor
open Go.RowKit

theorem secs_at (l : List UInt8) (u i : Nat) (h : i < u) : (secs l u).getD i [] = nth l i := by
  unfold secs
  rw [List.getD_eq_getElem?_getD, List.getElem?_map, List.getElem?_range h]
  rfl
theorem now_secs (l : List UInt8) (u i : Nat) (h : i < u) : now (secs l u) (fun _ => none) i = nth l i := secs_at l u i h
theorem nows_secs (l : List UInt8) (u q : Nat) (h : 16 * q + 16 ≤ u) : nows (secs l u) (fun _ => none) (16 * q) 16 = (l.drop (256 * q)).take 256 := by
  have e : (fun i => now (secs l u) (fun _ => none) (16 * q + i)) = fun i => if 16 * q + i < u then nth l (16 * q + i) else (secs l u).getD (16 * q + i) [] := by
    funext i
    split
    · rename_i h1
      exact now_secs l u _ h1
    · rfl
  have e2 : ((List.range 16).map fun i => now (secs l u) (fun _ => none) (16 * q + i)) = (List.range 16).map fun i => nth (l.drop (256 * q)) i := by
    refine List.map_congr_left fun i hi => ?_
    have hi' : i < 16 := List.mem_range.1 hi
    rw [now_secs l u _ (by omega)]
    unfold nth
    rw [List.drop_drop]
    congr 2
    omega
  unfold nows
  rw [e2, nth_join]
theorem sub7 (l : List UInt8) (i j : Nat) (hi : i ≤ j) (hj : j ≤ l.length) : (⟨l.toArray⟩ : ByteArray).extract i j = ⟨((l.drop i).take (j - i)).toArray⟩ := sub_at l i j hi hj
theorem form_take (S : List (List UInt8)) (M : Int → Option (List UInt8)) (h : Hd) (h2 : 2 ≤ S.length) (hl : ∀ x ∈ formS S M h, x.length = 16) : (formS S M h).flatten.take 32 = bytesH h ++ zeroS := by
  have e := nth_join (formS S M h).flatten 2
  have h0 := nth_flat (formS S M h) 0 (by rw [formS_length]; omega) hl
  have h1 := nth_flat (formS S M h) 1 (by rw [formS_length]; omega) hl
  have g0 := formS_at S M h 0 (by omega)
  have g1 := formS_at S M h 1 (by omega)
  rw [List.getD_eq_getElem?_getD, List.getElem?_eq_getElem (by rw [formS_length]; omega)] at g0 g1
  simp only [Option.getD_some, if_true] at g0 g1
  rw [if_neg (by decide)] at g1
  rw [show 16 * 2 = 32 from rfl] at e
  rw [← e]
  simp only [List.range_succ, List.range_zero, List.nil_append, List.map_append, List.map_cons, List.map_nil, List.flatten_append, List.flatten_cons, List.flatten_nil, List.append_nil]
  rw [h0, h1, g0, g1]

end Go.Proofs.YtkgjmejgkffbdaaGreatDoor
