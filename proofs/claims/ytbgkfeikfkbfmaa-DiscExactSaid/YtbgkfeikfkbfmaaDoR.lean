/- tiercelaw04.do: Read. -/
import Derived.Test.YtbgkfeikfkbfmaaDoA
set_option linter.unusedVariables false
namespace Go.Proofs.Ytbgkfeikfkbfmaa
open Go.RowKit

section
variable {w : World} {d m s b u N : Nat} {vn vs vl : Value} {p : Pw} {S : List (List UInt8)} {M : Int → Option (List UInt8)} {W : World}

set_option maxHeartbeats 1000000 in
set_option maxRecDepth 100000 in
theorem do3 (h : Bth w d m s b u N vn vs vl p S M (flushed S M) S (looseL S M) W) (x y : Int) (z : UInt8) (t : List UInt8) (ix : I64 x) (iy : I64 y) :
    Calls Try.prog 10 (doArgs m d u (actV 3 x y z t)) W fun e w' => e = .returned (.bool true) ∧ Fine w d m s b u N vn vs vl w' := by
  unfold doArgs actV
  obtain ⟨zz, hz⟩ : ∃ zz : Int, (z.toNat : Int) = zz := ⟨_, rfl⟩
  rw [hz]
  clear hz
  have h' := h.old ((KeptIn.refl _ W).alloc (fun _ h => h) (.cells #[.int .i64 3, .int .i64 x, .int .i64 y, .int .u8 zz, .string ⟨t.toArray⟩] 31))
  clear h
  have hm16 := h'.dv.isD.max
  have IX := Lib.hid ix; have IY := Lib.hid iy
  have hft : ∀ V, IsU w.heap.size u vn vs vl (flushed S M) S (looseL S M) V → Calls Try.prog 27 #[.pointer (some ⟨u, 0, none⟩), .int .i64 x, .int .i64 y] V fun e w' => e = .returned (.bool (fits S.length x y)) ∧ V = w' := fun V hV => by
    have := r4Fits w.heap.size u vn vs vl _ _ _ x y V hV IX.out IY.out (by rw [flushed_length]; exact hm16)
    rwa [flushed_length] at this
  clear ix iy
  cases hf : fits S.length x y with
  | false =>
    have C := Lib.hid (dReadRange d m s b N S M x y _ h'.dv.isD IX.out IY.out hf)
    have cf := hft _ h'.iu
    rw [hf] at cf
    have CF := Lib.hid cf
    have HF := Lib.hid (h'.fine (N := N) (by omega))
    clear h' cf hft hm16 hf
    go_enter Try.func10, Try.ntmps10
    go_wp2_with (go_at_call 18; refine C.out.mono ?_)
    rintro e w3 ⟨rfl, rfl⟩
    go_wp2_with (go_at_call 27; refine CF.out.mono ?_)
    rintro e w4 ⟨rfl, rfl⟩
    go_wp2
    go_ret
    exact ⟨rfl, HF.out⟩
  | true =>
    have hb : 0 ≤ x ∧ 0 ≤ y ∧ x ≤ (S.length : Int) - y := by simpa [fits, and_assoc] using hf
    cases hon : p.on with
    | false =>
      have C := Lib.hid (dReadDown d m s b N p S M x y _ h'.dv.isD h'.dv.isP hon IX.out IY.out hf)
      have cf := hft _ h'.iu
      rw [hf] at cf
      have CF := Lib.hid cf
      have ho := mOn m _ _ _ _ _ h'.dv.isP.1
      rw [hon] at ho
      have HO := Lib.hid ho
      have HF := Lib.hid (h'.fine (N := N) (by omega))
      clear h' cf hft hm16 hf hb ho
      go_enter Try.func10, Try.ntmps10
      go_wp2_with (go_at_call 18; refine C.out.mono ?_)
      rintro e w3 ⟨rfl, rfl⟩
      go_wp2_with (go_at_call 27; refine CF.out.mono ?_)
      rintro e w4 ⟨rfl, rfl⟩
      go_wp2_with (go_at_call 28; refine HO.out.mono ?_)
      rintro e w5 ⟨rfl, rfl⟩
      go_wp2
      go_ret
      exact ⟨rfl, HF.out⟩
    | true =>
      obtain ⟨hx0, hy0, hxy⟩ := hb
      obtain ⟨a, rfl⟩ : ∃ a : Nat, x = (a : Int) := ⟨x.toNat, by omega⟩
      obtain ⟨n, rfl⟩ : ∃ n : Nat, y = (n : Int) := ⟨y.toNat, by omega⟩
      have C := Lib.hid (dRead d m s b N p S M a a n _ h'.dv.isD h'.dv.isP hon rfl (by omega))
      have H' := Lib.hid h'
      have HON := Lib.hid hon
      have HB : Hid (fits S.length a n = true ∧ a + n ≤ S.length ∧ S.length ≤ 16384) := Lib.hid ⟨hf, by omega, hm16⟩
      have HFT := Lib.hid hft
      have hlt : W.heap.size < (W.alloc (.cells #[.int .i64 3, .int .i64 (a : Int), .int .i64 (n : Int), .int .u8 zz, .string ⟨t.toArray⟩] 31)).heap.size := by simp
      have HA : Hid (∀ W0, KeptIn (· < (W.alloc (.cells #[.int .i64 3, .int .i64 (a : Int), .int .i64 (n : Int), .int .u8 zz, .string ⟨t.toArray⟩] 31)).heap.size) (W.alloc (.cells #[.int .i64 3, .int .i64 (a : Int), .int .i64 (n : Int), .int .u8 zz, .string ⟨t.toArray⟩] 31)) W0 →
          W0.cell? ⟨W.heap.size, 1, none⟩ = some (.int .i64 (a : Int)) ∧ W0.cell? ⟨W.heap.size, 2, none⟩ = some (.int .i64 (n : Int))) := Lib.hid fun W0 hk => by
        have := (hk.block _ hlt).trans (heap_alloc_new W _)
        exact ⟨by simp [World.cell?, this], by simp [World.cell?, this]⟩
      clear h' hft hm16 hf hon hlt hxy
      obtain ⟨T, hT⟩ : ∃ T, nows S M a n = T := ⟨_, rfl⟩
      rw [hT] at C
      have HT := Lib.hid hT
      clear hT
      go_enter Try.func10, Try.ntmps10
      go_wp2_with (go_at_call 18; refine C.out.mono ?_)
      rintro e w3 ⟨rfl, hk3⟩
      obtain ⟨a1, a2⟩ := HA.out w3 hk3
      have h3 := H'.out.old hk3
      have cf := HFT.out _ h3.iu
      rw [HB.out.1] at cf
      have CF := Lib.hid cf
      have ho := mOn m _ _ _ _ _ h3.dv.isP.1
      rw [HON.out] at ho
      have HO := Lib.hid ho
      have H3 := Lib.hid h3
      clear h3 H' hk3 HA HFT C cf ho HON
      go_wp2_with (go_at_call 27; refine CF.out.mono ?_)
      rintro e w4 ⟨rfl, rfl⟩
      go_wp2_with (go_at_call 28; refine HO.out.mono ?_)
      rintro e w5 ⟨rfl, rfl⟩
      clear CF HO
      have c0 := H3.out.iu.c0
      obtain ⟨an, cn, rfl, _⟩ := row_shape H3.out.iu.rn
      rw [flushed_length] at c0
      have e1 : wrap64 ((a : Int) + (n : Int)) = ((a + n : Nat) : Int) := by have := HB.out; unfold wrap64; omega
      obtain ⟨k2, hk2⟩ : ∃ k2, a + n = k2 := ⟨_, rfl⟩
      rw [hk2] at e1
      have j0 : (0 : Int) ≤ (k2 : Int) := by omega
      have j1 : (a : Int) ≤ (k2 : Int) := by omega
      by_cases hS : 0 < S.length
      · obtain ⟨g, cap', e2, hBg, hglt, hcap, _, hcell, _⟩ := row_at H3.out.iu.rn (by rw [flushed_length]; exact hS)
        simp only [Value.slice.injEq, true_and] at e2
        obtain ⟨rfl, rfl⟩ := e2
        rw [flushed_length] at hcap
        have j2 : (k2 : Int) ≤ (cn : Int) := by have := HB.out; omega
        by_cases hca : cn = a
        · obtain rfl : n = 0 := by have := HB.out; omega
          obtain rfl : k2 = a := by omega
          have e3 : wrap64 (k2 : Int) = (k2 : Int) := by simpa using e1
          have hTe : T = [] := by rw [← HT.out]; rfl
          subst hTe
          have CT : Hid (∀ (a : Option Addr) (cap q : Nat), Calls Try.prog 14 #[.slice a 0 cap] (w3.drewN q) fun e w' => e = .returned (.string ⟨([] : List UInt8).toArray⟩) ∧ w' = w3.drewN q) := Lib.hid fun a cap q => by
            have := r4Text a cap [] (w3.drewN q) (fun h => absurd h (by simp)) (fun y hy => by simp at hy) (by simp)
            exact this.mono fun _ _ h => ⟨h.1, h.2.symm⟩
          have HF := Lib.hid fun q => (H3.out.old ((KeptIn.refl _ w3).drewN q)).fine (N := N) (by omega)
          clear hcell H3
          go_wp2_with fail
          go_quiet ((go_at_call 14; exact Calls.quiet_of_same (CT.out _ _ _)))
          go_wp2_with fail
          go_ret
          exact ⟨rfl, HF.out _⟩
        have CT : Hid (∀ q, Calls Try.prog 14 #[.slice (some ⟨g, a, none⟩) (k2 - a) (cn - a)] (w3.drewN q) fun e w' => e = .returned (.string ⟨T.toArray⟩) ∧ w' = w3.drewN q) := Lib.hid fun q => by
          have hxl : (((flushed S M).drop a).take n).length = k2 - a := by rw [List.length_take, List.length_drop, flushed_length]; have := HB.out; omega
          have := r4Text (some ⟨g, a, none⟩) (cn - a) (((flushed S M).drop a).take n) (w3.drewN q) (fun hp => by
            refine ⟨g, a, rfl, fun j y hj => ?_⟩
            rw [List.getElem?_take] at hj
            split at hj
            · rw [List.getElem?_drop] at hj
              exact hcell (a + j) (strV y) (by rw [List.getElem?_map, hj]; rfl)
            · cases hj) (fun y hy => by
            obtain ⟨i, hi, rfl⟩ := List.mem_map.1 (List.mem_of_mem_drop (List.mem_of_mem_take hy))
            exact now_length H3.out.dv.isD i (List.mem_range.1 hi)) (by rw [hxl]; have := HB.out; omega)
          rw [← nows_slice a n HB.out.2.1, HT.out, hxl] at this
          exact this.mono fun _ _ h => ⟨h.1, h.2.symm⟩
        have HF := Lib.hid fun q => (H3.out.old ((KeptIn.refl _ w3).drewN q)).fine (N := N) (by omega)
        clear hcell H3
        go_wp2_with fail
        go_quiet ((go_at_call 14; exact Calls.quiet_of_same (CT.out _)))
        go_wp2_with fail
        go_ret
        exact ⟨rfl, HF.out _⟩
      · obtain rfl : a = 0 := by have := HB.out; omega
        obtain rfl : n = 0 := by have := HB.out; omega
        obtain rfl : k2 = 0 := by omega
        have hSl : S.length = 0 := by omega
        have hTe : T = [] := by rw [← HT.out]; rfl
        subst hTe
        rw [hSl] at c0
        have CT : Hid (∀ (a : Option Addr) (cap q : Nat), Calls Try.prog 14 #[.slice a 0 cap] (w3.drewN q) fun e w' => e = .returned (.string ⟨([] : List UInt8).toArray⟩) ∧ w' = w3.drewN q) := Lib.hid fun a cap q => by
          have := r4Text a cap [] (w3.drewN q) (fun h => absurd h (by simp)) (fun y hy => by simp at hy) (by simp)
          exact this.mono fun _ _ h => ⟨h.1, h.2.symm⟩
        have HF := Lib.hid fun q => (H3.out.old ((KeptIn.refl _ w3).drewN q)).fine (N := N) (by omega)
        clear H3 hSl
        cases an with
        | none =>
          go_wp2_with fail
          go_quiet ((go_at_call 14; exact Calls.quiet_of_same (CT.out _ _ _)))
          go_wp2_with fail
          go_ret
          exact ⟨rfl, HF.out _⟩
        | some ad =>
          go_wp2_with fail
          go_quiet ((go_at_call 14; exact Calls.quiet_of_same (CT.out _ _ _)))
          go_wp2_with fail
          go_ret
          exact ⟨rfl, HF.out _⟩

end

end Go.Proofs.Ytbgkfeikfkbfmaa
