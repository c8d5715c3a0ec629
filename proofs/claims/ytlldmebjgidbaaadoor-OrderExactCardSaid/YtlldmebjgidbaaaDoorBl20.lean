/- Order: the order of a word, with nothing in its fields; Text of nil. -/
import Derived.Test.YtlldmebjgidbaaaDoorTy20
set_option linter.unusedVariables false
namespace Go.Proofs.YtlldmebjgidbaaaDoor
open Go.RowKit

/-- The order of a kind with nothing in its fields. -/
def zo (k : Nat) : Od := ⟨k, List.replicate (cn k) 0, List.replicate (ct k) []⟩
theorem zo_ok (k : Nat) (h : k < 15) : (zo k).ok :=
  ⟨h, by simp [zo], by simp [zo], fun x hx => by rw [(List.mem_replicate.1 hx).2]; omega, fun x hx => by rw [(List.mem_replicate.1 hx).2]; simp⟩

def kindOf (wd : List UInt8) : Option Nat := (List.range 15).find? fun k => wordL k == wd

theorem kindOf_some {wd : List UInt8} {j : Nat} (hj : j < 15) (h : wordL j = wd) (hn : ∀ i, i < j → wordL i ≠ wd) : kindOf wd = some j := by
  unfold kindOf
  rw [List.find?_range_eq_some]
  refine ⟨by rw [h]; simp, by simp; exact hj, fun i hi => ?_⟩
  have := hn i hi
  simpa using this
theorem kindOf_none {wd : List UInt8} (hn : ∀ i, i < 15 → wordL i ≠ wd) : kindOf wd = none := by
  unfold kindOf
  rw [List.find?_eq_none]
  intro i hi
  have := hn i (List.mem_range.1 hi)
  simpa using this
theorem kindOf_is {wd : List UInt8} {k : Nat} (h : kindOf wd = some k) : k < 15 ∧ wordL k = wd := by
  unfold kindOf at h
  rw [List.find?_range_eq_some] at h
  exact ⟨List.mem_range.1 h.2.1, by simpa using h.1⟩

def blV (wd : List UInt8) : Value := match kindOf wd with
  | none => .nilIface
  | some k => valO (zo k)

theorem oTextNil (w : World) : Calls Tryd.prog 9 #[.nilIface] w fun e w' => e = .returned (.tuple #[.string ⟨#[]⟩, .int .i64 1]) ∧ KeptIn (· < w.heap.size) w w' := by
  go_enter Tryd.func9, Tryd.ntmps9
  go_wp2_with fail
  refine (oPartsNil w).mono ?_
  rintro e W ⟨rfl, hK⟩
  replace hK := Lib.hid hK
  go_wp2_with fail
  go_ret2
  exact ⟨rfl, hK.out⟩

def allO : Array Value := #[valO (zo 0), valO (zo 1), valO (zo 2), valO (zo 3), valO (zo 4), valO (zo 5), valO (zo 6), valO (zo 7), valO (zo 8), valO (zo 9), valO (zo 10), valO (zo 11), valO (zo 12), valO (zo 13), valO (zo 14)]
theorem allO_at : ∀ k, k < 15 → allO[k]? = some (valO (zo k))
  | 0, _ | 1, _ | 2, _ | 3, _ | 4, _ | 5, _ | 6, _ | 7, _ | 8, _ | 9, _ | 10, _ | 11, _ | 12, _ | 13, _ | 14, _ => rfl
  | n + 15, h => absurd h (by omega)

set_option maxRecDepth 1000000 in
set_option maxHeartbeats 4000000 in
theorem oBlank (wd : List UInt8) (w : World) : Calls Tryd.prog 27 #[.string ⟨wd.toArray⟩] w fun e w' => e = .returned (blV wd) ∧ KeptIn (· < w.heap.size) w w' := by
  go_enter Tryd.func27, Tryd.ntmps27
  go_wp2_with fail
  obtain ⟨W, hW⟩ : ∃ W, w.alloc (.cells allO 24) = W := ⟨_, rfl⟩
  have hcell : ∀ k, k < 15 → W.cell? ⟨w.heap.size, k, none⟩ = some (valO (zo k)) := by
    intro k hk
    rw [← hW]
    unfold World.cell?
    rw [heap_alloc_new]
    exact allO_at k hk
  have hK : KeptIn (· < w.heap.size) w W := by rw [← hW]; exact (KeptIn.refl _ _).alloc (fun _ h => h) _
  replace hK := Lib.hid hK
  replace hW := Lib.hid hW
  go_loopw [39] (fun i wr => ∃ (j : Nat) (V : World), V = wr ∧ i = .int .i64 (j : Int) ∧ Hid (j ≤ 15 ∧ (∀ i, i < j → wordL i ≠ wd) ∧ KeptIn (· < W.heap.size) W V)) (fun i _ => 15 - (RowKit.intOf i).toNat)
  case atStart =>
    refine ⟨0, _, rfl, rfl, Nat.zero_le _, fun i hi => absurd hi (by omega), ?_⟩
    have e := hW.out
    rw [← e]
    exact KeptIn.refl _ _
  case round =>
    obtain ⟨j, V, rfl, rfl, H⟩ := hrel
    obtain ⟨hj, hN, hV⟩ := H.out
    clear H
    have hKV : Hid (KeptIn (· < w.heap.size) w V) := Lib.hid (hK.out.trans (hV.mono fun k hk => Nat.lt_of_lt_of_le hk hK.out.size))
    by_cases hp : j < 15
    · have hc := cell_old hV (hcell j hp)
      obtain ⟨f, z, hm, hf, hw⟩ := oWord (zo j) (zo_ok j hp)
      have hx : valO (zo j) = .iface (tyO (zo j).k) (.agg (numC (zo j).ns ++ txtC (zo j).ts).toArray) := rfl
      obtain ⟨x, hxx⟩ : ∃ x, valO (zo j) = x := ⟨_, rfl⟩
      rw [hxx] at hx
      rw [hxx, hx] at hc
      generalize Value.agg (numC (zo j).ns ++ txtC (zo j).ts).toArray = y at hc hm hx
      generalize tyO (zo j).k = ty at hc hm hx
      obtain ⟨l, hl⟩ : ∃ l, wordL (zo j).k = l := ⟨_, rfl⟩
      rw [hl] at hw
      replace hw := Lib.hid hw
      have d0 : decide ((0 : Int) ≤ (j : Int)) = true := decide_eq_true (by omega)
      have d1 : decide ((j : Int) < 15) = true := decide_eq_true (by omega)
      have d2 : (j : Int) < 15 := by omega
      have d3 : (0 : Int) ≤ (j : Int) := by omega
      have hw1 := wrap_succ j (by omega)
      replace hxx := Lib.hid (And.intro hxx hx)
      replace hl := Lib.hid hl
      replace hN := Lib.hid hN
      replace hp := Lib.hid hp
      replace hV := Lib.hid hV
      replace hcell := Lib.hid hcell
      clear hx hj
      by_cases hq : l = wd
      · have b1 : (l == wd) = true := beq_iff_eq.2 hq
        replace hq := Lib.hid hq
        go_wp2_with fail
        refine (hw.out V).mono ?_
        rintro e V2 ⟨rfl, hK2⟩
        replace hK2 := Lib.hid hK2
        clear hm hf hw hc
        go_wp2_with fail
        go_ret
        refine ⟨?_, hKV.out.trans (hK2.out.mono fun k hk => Nat.lt_of_lt_of_le hk hKV.out.size)⟩
        have hkd : kindOf wd = some j := kindOf_some hp.out (hl.out.trans hq.out) hN.out
        unfold blV
        rw [hkd]
        show _ = Ending.returned (valO (zo j))
        rw [hxx.out.1, hxx.out.2]
        rfl
      · have b1 : (l == wd) = false := beq_eq_false_iff_ne.2 hq
        replace hq := Lib.hid hq
        go_wp2_with fail
        refine (hw.out V).mono ?_
        rintro e V2 ⟨rfl, hK2⟩
        replace hK2 := Lib.hid hK2
        clear hm hf hw hc
        go_wp2_with fail
        go_roundw
        case rel =>
          refine ⟨j + 1, _, rfl, by first | rfl | exact congrArg (Value.int .i64) (wrap_succ j (by have := hp.out; omega)), by have := hp.out; omega, fun i hi => ?_, hV.out.trans (hK2.out.mono fun k hk => Nat.lt_of_lt_of_le hk hV.out.size)⟩
          by_cases e : i = j
          · rw [e]
            exact fun h => hq.out (hl.out.symm.trans h)
          · exact hN.out i (by omega)
        case measure => first | exact ms_step hp.out rfl | exact ms_step hp.out (wrap_succ j (by have := hp.out; omega))
    · obtain rfl : j = 15 := by omega
      have hkd : Hid (blV wd = .nilIface) := Lib.hid (by unfold blV; rw [kindOf_none hN])
      clear hN hV hj hp hcell
      go_wp2_with fail
      go_ret
      exact ⟨by rw [hkd.out]; rfl, hKV.out⟩

end Go.Proofs.YtlldmebjgidbaaaDoor
