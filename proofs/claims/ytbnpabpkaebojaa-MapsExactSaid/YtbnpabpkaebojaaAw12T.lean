import Derived.Test.YtbnpabpkaebojaaMf12T
/- Layer 12: awake. -/
set_option linter.unusedVariables false
namespace Go.Proofs.Ytbnpabpkaebojaa
open Go.RowKit

theorem tn_new12 (w : World) (room : Nat) (hr : room ≤ 1000000) (W : World) (hW : W = w.alloc (.cells #[.slice none 0 0, .int .i64 (room : Int)] 30)) : TrN w w.heap.size room 0 [] 8 [] W :=
  ⟨_, (tm_new w room hr W hW).1, TrI.zero, by simp, fun k hk => Nat.le_of_eq hk.symm, by rw [hW]; exact (KeptIn.refl _ w).alloc (fun _ h => h) _⟩
theorem TrN.kw12 {w3 W : World} {s room root f : Nat} {qs : Pairs} {N : List Nd} (h : TrN w3 s room root qs f N W) : KeptIn (· < w3.heap.size) w3 W := by
  obtain ⟨D, h1, h2, h3, h4, h5⟩ := h
  exact h5
theorem good59 (z : Int) (r : Bool) (h : r = decide (5 < z)) : r = true ↔ goodE [((5 : Int), (9 : Int))] z := by
  rw [h, decide_eq_true_iff]
  constructor
  · intro hz i hi
    obtain rfl : i = 0 := by simpa using hi
    exact ⟨⟨by decide, by decide, hz⟩, fun h => absurd h (by omega)⟩
  · intro hg
    exact (hg 0 (by simp)).1.2.2

set_option maxHeartbeats 4000000 in
set_option maxRecDepth 100000 in
theorem awake12 (w : World) : Calls Try.prog 17 #[] w fun e w' => e = .returned (.bool true) ∧ KeptIn (· < w.heap.size) w w' := by
  obtain ⟨W1, hW1⟩ : ∃ W1, w.alloc (.cells #[.slice none 0 0, .int .i64 50] 30) = W1 := ⟨_, rfl⟩
  have ht := tn_new12 w 50 (by decide) W1 hW1.symm
  obtain ⟨s, hs⟩ : ∃ s, w.heap.size = s := ⟨_, rfl⟩
  rw [hs] at ht
  have HC := Lib.hid (maSet (k := 5) (v := 9) ht (by omega) (by omega) (by omega) (by omega) (by omega))
  have HB := Lib.hid fun W => maSetBad (W := W) s 0 64 9 (by omega)
  have HW := Lib.hid (And.intro hW1 hs)
  unfold pgV at HC HB
  clear ht hW1 hs
  go_enter Try.func17, Try.ntmps17
  go_wp2_with fail
  rw [HW.out.1]
  simp only [HW.out.2]
  refine HC.out.mono ?_
  rintro e V1 ⟨r, er, M, rfl, hM, hfr, hor⟩
  rcases hor with ⟨_, _, _, h⟩ | ⟨rfl, ht⟩
  · exfalso
    rw [List.nil_append] at h
    omega
  have ht1 : TrN w s 50 r [(5, 9)] 9 M V1 := ht
  have HT := Lib.hid ht1
  have HG := Lib.hid (maGet (k := 5) ht1.m (fun p hp => by rw [List.mem_singleton.1 hp]; decide) (by omega))
  rw [show lookM [(5, 9)] 5 = 9 from rfl] at HG
  unfold pgV at HG
  clear ht ht1 hfr hM HC
  go_wp2_with fail
  refine HG.out.mono ?_
  rintro e V2 ⟨rfl, hk2⟩
  have HL := Lib.hid ((maList (HT.out.old hk2).m (by decide)).mono fun e w' hR => hR.resolve_right fun h => h.1 fun p hp => by rw [List.mem_singleton.1 hp]; decide)
  have HK2 := Lib.hid hk2
  unfold pgV at HL
  clear hk2 HG
  go_wp2_with fail
  refine HL.out.mono ?_
  rintro e V3 ⟨-, v, rfl, hrow, hk3⟩
  obtain ⟨a, cap, rfl, -, -⟩ := row_sliceE hrow
  have hes : IsEs V3 a [((5 : Int), (9 : Int))] := row_IsEs hrow
  have hG := Lib.hid fun W z (h : IsEs W a [((5 : Int), (9 : Int))]) => maGood a cap [((5 : Int), (9 : Int))] z (decide (5 < z)) W h (by decide) (good59 z _ rfl)
  obtain ⟨b, off, rfl, hb, hc⟩ := hes.cells (by decide)
  obtain ⟨c1, c2⟩ := hc 0 (by decide)
  simp only [Nat.zero_mul, Nat.add_zero] at c1 c2
  replace c1 : V3.cell? ⟨b, off, none⟩ = some (.int .i64 5) := c1
  replace c2 : V3.cell? ⟨b, off + 1, none⟩ = some (.int .i64 9) := c2
  have HE := Lib.hid (And.intro hes (((HT.out.kw12.go HK2.out).go hk3)))
  clear hrow hes hb hc hk3 HL HK2 HT
  go_wp2_with (first
    | (go_at_call 23; refine (HB.out _).mono ?_; rintro e V ⟨rfl, rfl⟩)
    | (go_at_call 26; refine (hG.out _ _ (by first | exact HE.out.1 | exact HK6.out.1)).mono ?_; rintro e V6 ⟨rfl, k6⟩; have HK6 : Hid (IsEs V6 (some ⟨b, off, none⟩) [((5 : Int), (9 : Int))] ∧ KeptIn (· < w.heap.size) w V6) := Lib.hid (by first | exact ⟨HE.out.1.old k6, HE.out.2.go k6⟩ | exact ⟨HK6.out.1.old k6, HK6.out.2.go k6⟩); clear k6))
  go_ret
  exact ⟨rfl, HK6.out.2⟩

end Go.Proofs.Ytbnpabpkaebojaa
