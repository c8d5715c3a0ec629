/- Order: an order's parts; whether it can be; its numbers, its texts; Must. -/
import Derived.Test.YtlldmebjgidbaaaDoorFs20
set_option linter.unusedVariables false
namespace Go.Proofs.YtlldmebjgidbaaaDoor
open Go.RowKit

def canT (ts : List (List UInt8)) : Bool := ts.all fun t => decide (t.length ≤ 512)

theorem txt_cell {b : Nat} {ts : List (List UInt8)} {w : World} (h : w.heap[b]? = some (.cells (txtC ts).toArray 9 (0, 0))) (j : Nat) (t : List UInt8) (ht : ts[j]? = some t) : w.cell? ⟨b, j, none⟩ = some (.string ⟨t.toArray⟩) := by
  unfold World.cell?
  rw [h]
  simp [txtC, ht]
theorem num_cell {b : Nat} {ns : List Int} {w : World} (h : w.heap[b]? = some (.cells (numC ns).toArray 3 (0, 0))) (j : Nat) (n : Int) (hn : ns[j]? = some n) : w.cell? ⟨b, j, none⟩ = some (.int .i64 n) := by
  unfold World.cell?
  rw [h]
  simp [numC, hn]

set_option maxRecDepth 1000000 in
set_option maxHeartbeats 4000000 in
theorem oPartsOf (x : Value) (ns : List Int) (ts : List (List UInt8)) (b : Bool) (w : World) (hn : ts.length ≤ 3) (hlen : ∀ (j : Nat) (t : List UInt8), ts[j]? = some t → t.length ≤ 1099511627776)
    (C : Calls Tryd.prog 28 #[x] w fun e w' => ∃ v1 v2, e = .returned (.tuple #[v1, v2, .bool b]) ∧ RowN v1 ns w.heap.size w' ∧ RowT v2 ts w.heap.size w' ∧ KeptIn (· < w.heap.size) w w') :
    Calls Tryd.prog 22 #[x] w fun e w' => ∃ v1 v2, e = .returned (.tuple #[v1, v2, .bool (b && canT ts)]) ∧ (canT ts = true → RowN v1 ns w.heap.size w' ∧ RowT v2 ts w.heap.size w') ∧ (canT ts = false → v1 = .slice none 0 0 ∧ v2 = .slice none 0 0) ∧ KeptIn (· < w.heap.size) w w' := by
  replace C := Lib.hid C
  replace hlen := Lib.hid hlen
  go_enter Tryd.func22, Tryd.ntmps22
  go_wp2_with fail
  refine C.out.mono ?_
  rintro e W ⟨v1, v2, rfl, hN, hT, hK⟩
  clear C
  replace hN := Lib.hid hN
  replace hK := Lib.hid hK
  rcases hT with ⟨rfl, rfl⟩ | ⟨k, hk, rfl, hb⟩
  · have hT : Hid (RowT (.slice none 0 0) [] w.heap.size W) := Lib.hid (.inl ⟨rfl, rfl⟩)
    go_wp2_with fail
    go_loopw [18] (fun i wr => i = .int .i64 (0 : Int) ∧ wr = W) (fun _ _ => 0)
    case atStart => exact ⟨rfl, rfl⟩
    case round =>
      obtain ⟨rfl, rfl⟩ := hrel
      go_wp2_with fail
      go_ret3
      rw [show canT [] = true from rfl, Bool.and_true]
      exact ⟨_, _, rfl, fun _ => ⟨hN.out, hT.out⟩, fun h => absurd h (by simp), hK.out⟩
  · have hT : Hid (RowT (.slice (some ⟨k, 0, none⟩) ts.length ts.length) ts w.heap.size W) := Lib.hid (.inr ⟨k, hk, rfl, hb⟩)
    have hcell := txt_cell hb
    clear hb hk
    have hlen := hlen.out
    go_wp2_with fail
    go_loopw [18] (fun i wr => ∃ (j : Nat), i = .int .i64 (j : Int) ∧ wr = W ∧ Hid (j ≤ ts.length ∧ ∀ k, k < j → ∀ t : List UInt8, ts[k]? = some t → t.length ≤ 512)) (fun i _ => ts.length - (RowKit.intOf i).toNat)
    case atStart => exact ⟨0, rfl, rfl, by omega, fun k hk => absurd hk (by omega)⟩
    case round =>
      obtain ⟨j, rfl, rfl, H⟩ := hrel
      obtain ⟨hj, hall⟩ := H.out
      clear H
      by_cases hp : j < ts.length
      · obtain ⟨t, ht⟩ : ∃ t, ts[j]? = some t := ⟨ts[j], List.getElem?_eq_getElem hp⟩
        have hc := hcell j t ht
        have d1 : decide ((j : Int) < (ts.length : Int)) = true := decide_eq_true (by omega)
        have d0 : decide ((0 : Int) ≤ (j : Int)) = true := decide_eq_true (by omega)
        have hw : wrap64 ((j : Int) + 1) = ((j + 1 : Nat) : Int) := by unfold wrap64; omega
        replace hall := Lib.hid hall
        replace ht := Lib.hid ht
        replace hp := Lib.hid hp
        replace hj := Lib.hid hj
        replace hcell := Lib.hid hcell
        replace hlen := Lib.hid hlen
        by_cases hx : (512 : Int) < (t.length : Int)
        · have d2 : decide ((512 : Int) < (t.length : Int)) = true := decide_eq_true hx
          have d3 : decide ((t.length : Int) > 512) = true := d2
          have d4 : decide (512 < t.length) = true := decide_eq_true (by omega)
          replace hx := Lib.hid hx
          go_wp2_with fail
          go_ret3
          have hcan : canT ts = false := by
            cases hcn : canT ts with
            | false => rfl
            | true =>
              have h1 := List.all_eq_true.1 hcn t (List.mem_of_getElem? ht.out)
              have := of_decide_eq_true h1
              have := hx.out
              omega
          rw [hcan, Bool.and_false]
          exact ⟨_, _, rfl, fun h => absurd h (by simp), fun _ => ⟨rfl, rfl⟩, hK.out⟩
        · have d2 : decide ((512 : Int) < (t.length : Int)) = false := decide_eq_false hx
          have d3 : decide ((t.length : Int) > 512) = false := d2
          have d4 : decide (512 < t.length) = false := decide_eq_false (by omega)
          replace hx := Lib.hid hx
          go_wp2_with fail
          go_roundw
          case rel =>
            refine ⟨j + 1, rfl, by trivial, by have := hp.out; omega, fun k hk t' ht' => ?_⟩
            by_cases e : k = j
            · subst e
              rw [ht.out] at ht'
              obtain rfl := Option.some.inj ht'
              have := hx.out
              omega
            · exact hall.out k (by omega) t' ht'
          case measure =>
            simp only [RowKit.intOf]
            have := hp.out
            omega
      · obtain rfl : j = ts.length := by omega
        have d1 : decide ((ts.length : Int) < (ts.length : Int)) = false := decide_eq_false (by omega)
        replace hall := Lib.hid hall
        clear hj hp hcell
        go_wp2_with fail
        go_ret3
        have hcan : canT ts = true := by
          refine List.all_eq_true.2 fun t ht => ?_
          obtain ⟨k, hk⟩ := List.getElem?_of_mem ht
          have hk' : k < ts.length := (List.getElem?_eq_some_iff.1 hk).1
          exact decide_eq_true (hall.out k hk' t hk)
        rw [hcan, Bool.and_true]
        exact ⟨_, _, rfl, fun _ => ⟨hN.out, hT.out⟩, fun h => absurd h (by simp), hK.out⟩

/-- An order's parts. -/
theorem oParts (o : Od) (h : o.ok) (w : World) :
    Calls Tryd.prog 22 #[valO o] w fun e w' => ∃ v1 v2, e = .returned (.tuple #[v1, v2, .bool (canT o.ts)]) ∧ (canT o.ts = true → RowN v1 o.ns w.heap.size w' ∧ RowT v2 o.ts w.heap.size w') ∧ (canT o.ts = false → v1 = .slice none 0 0 ∧ v2 = .slice none 0 0) ∧ KeptIn (· < w.heap.size) w w' := by
  have hn : o.ts.length ≤ 3 := by
    rw [h.t]
    have hk := h.k
    revert hk
    generalize o.k = k
    intro hk
    have : ∀ k, k < 15 → ct k ≤ 3 := by decide
    exact this k hk
  have := oPartsOf (valO o) o.ns o.ts true w hn (fun j t ht => h.s t (List.mem_of_getElem? ht)) (oFields o h w)
  simpa using this

theorem oPartsNil (w : World) :
    Calls Tryd.prog 22 #[.nilIface] w fun e w' => e = .returned (.tuple #[.slice none 0 0, .slice none 0 0, .bool false]) ∧ KeptIn (· < w.heap.size) w w' := by
  go_enter Tryd.func22, Tryd.ntmps22
  go_wp2_with fail
  refine (oFieldsNil w).mono ?_
  rintro e W ⟨rfl, rfl⟩
  go_wp2_with fail
  go_loopw [18] (fun i wr => i = .int .i64 (0 : Int) ∧ wr = W) (fun _ _ => 0)
  case atStart => exact ⟨rfl, rfl⟩
  case round =>
    obtain ⟨rfl, rfl⟩ := hrel
    go_wp2_with fail
    go_ret3
    exact ⟨rfl, .refl _ _⟩

end Go.Proofs.YtlldmebjgidbaaaDoor
