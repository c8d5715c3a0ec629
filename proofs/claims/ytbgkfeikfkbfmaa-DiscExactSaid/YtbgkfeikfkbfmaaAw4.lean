/- tiercelaw04.sector; awake: what the document fixes by number. -/
import Derived.Test.YtbgkfeikfkbfmaaDv
import Derived.Laws.IdiomStrings
set_option linter.unusedVariables false
namespace Go.Proofs.Ytbgkfeikfkbfmaa
open Go.RowKit

theorem infoByte : (Try.prog.info? 5).map (fun i => (i.zero, i.size, i.bytes)) = some (some (.int .u8 0), 1, 1) := by kernel_rfl

/-- The first j bytes are x, the others zeros. -/
def half16 (x : UInt8) (j : Nat) : List UInt8 := List.replicate j x ++ List.replicate (16 - j) 0

theorem half16_set (x : UInt8) (j : Nat) (h : j < 16) : (Lib.byteCells (half16 x j)).toArray.setIfInBounds j (.int .u8 x.toNat) = (Lib.byteCells (half16 x (j + 1))).toArray := by
  rw [List.setIfInBounds_toArray]
  congr 1
  simp only [half16, Lib.byteCells, List.map_append, List.map_replicate]
  rw [List.set_append_right _ _ (by simp), List.length_replicate, Nat.sub_self, show 16 - j = (16 - (j + 1)) + 1 by omega, List.replicate_succ, List.set_cons_zero, List.replicate_succ' (n := j)]
  simp

theorem made_bytes (n : Nat) : (madeCells #[.int .u8 0] n).toList = List.replicate n (.int .u8 0) := by
  rw [List.eq_replicate_iff]
  refine ⟨by simp [madeCells], fun b hb => ?_⟩
  unfold madeCells at hb
  rw [Array.toList_map, List.mem_map] at hb
  obtain ⟨i, _, rfl⟩ := hb
  rw [show i % (#[Value.int .u8 0] : Array Value).size = 0 from Nat.mod_one i]
  rfl

theorem made16 (x : UInt8) : (madeCells #[.int .u8 0] 16).toList = Lib.byteCells (half16 x 0) := by
  rw [made_bytes]
  rfl

set_option maxHeartbeats 1000000 in
set_option maxRecDepth 100000 in
theorem lSector (x : UInt8) (w : World) :
    Calls Try.prog 22 #[.int .u8 x.toNat] w fun e w' => e = .returned (.string ⟨(solid x).toArray⟩) ∧ KeptIn (· < w.heap.size) w w' := by
  obtain ⟨i0, hi, hz0, hz1, hz2⟩ := info_parts infoByte
  obtain ⟨v, hv⟩ : ∃ v : Int, (x.toNat : Int) = v := ⟨_, rfl⟩
  have HV := Lib.hid hv
  rw [hv]
  clear hv
  obtain ⟨out, hout⟩ : ∃ o, solid x = o := ⟨_, rfl⟩
  rw [hout]
  have HO := Lib.hid hout; clear hout
  go_enter Try.func22, Try.ntmps22
  go_wp2_with (at_make; refine wpList_make_full _ rfl _ _ 52 rfl w.heap.size 5 i0 _ 1 Try.underlying52 hi hz0 hz1 .i64 .i64 16 16 16 rfl rfl rfl rfl (by rw [hz2]; decide) (by decide) (Nat.le_refl _) ?_)
  intro w1 hown hgrow
  have hb : w1.heap[w.heap.size]? = some (.cells (Lib.byteCells (half16 x 0)).toArray 5 (0, 0)) := by
    rcases hown.2 with ⟨h1, _⟩ | ⟨g, cap, cur, h1, _, h2, _, _, h3, h4⟩
    · cases h1
    · simp only [Value.slice.injEq, Option.some.injEq, Addr.mk.injEq, and_true, true_and] at h1
      obtain ⟨rfl, rfl⟩ := h1
      rw [h2]
      rw [List.take_of_length_le (by rw [Array.length_toList, h3]; decide)] at h4
      have : cur = (Lib.byteCells (half16 x 0)).toArray := Array.toList_inj.1 (h4.trans (made16 x))
      rw [this]
  have hk : KeptIn (· < w.heap.size) w w1 := (KeptIn.refl _ w).grown (fun _ h => h) hgrow (by simp)
  have HJ0 : Hid (w1.heap[w.heap.size]? = some (.cells (Lib.byteCells (half16 x 0)).toArray 5 (0, 0)) ∧ KeptIn (· < w.heap.size) w w1) := Lib.hid ⟨hb, hk⟩
  clear hown hgrow hb hk hi hz0 hz1 hz2
  obtain ⟨r, hr⟩ : ∃ r, w.heap.size = r := ⟨_, rfl⟩
  rw [hr] at HJ0 ⊢
  go_wp2_with fail
  go_loopw [4] (fun c wr => ∃ (j : Nat) (W : World), W = wr ∧ j ≤ 16 ∧ c = .int .i64 j ∧ Hid (W.heap[r]? = some (.cells (Lib.byteCells (half16 x j)).toArray 5 (0, 0)) ∧ KeptIn (· < r) w W)) (fun c _ => 16 - (RowKit.intOf c).toNat)
  case atStart => exact ⟨0, w1, rfl, Nat.zero_le _, rfl, HJ0⟩
  case round =>
    obtain ⟨j, W, rfl, hj, rfl, HJ⟩ := hrel
    clear HJ0
    have hsz : (Lib.byteCells (half16 x j)).toArray.size = 16 := by rw [List.size_toArray, Lib.byteCells_length]; simp [half16]; omega
    by_cases hlt : j < 16
    · have b0 : (0 : Int) ≤ (j : Int) := by omega
      have b1 : (j : Int) < 16 := by omega
      obtain ⟨u, hu⟩ : ∃ u, W.cell? ⟨r, j, none⟩ = some u := by
        rw [cell_of_row W r j _ _ _ HJ.out.1]
        exact ⟨_, Array.getElem?_eq_getElem (by rw [hsz]; exact hlt)⟩
      have f0 : W.frozen? ⟨r, j, none⟩ = false := frozen_of_row W r j _ _ HJ.out.1
      clear hsz
      have HJ2 : Hid ((W.setCell ⟨r, j, none⟩ (.int .u8 v)).heap[r]? = some (.cells (Lib.byteCells (half16 x (j + 1))).toArray 5 (0, 0)) ∧ KeptIn (· < r) w (W.setCell ⟨r, j, none⟩ (.int .u8 v))) := Lib.hid ⟨by
        rw [heap_setCell_same _ _ _ _ _ _ HJ.out.1, ← HV.out, half16_set x j hlt], HJ.out.2.setCell (by simp) _⟩
      clear HJ
      go_wp2
      go_roundw
      case rel => exact ⟨j + 1, _, rfl, by omega, by go_num, HJ2⟩
      case measure => simp [RowKit.intOf]; omega
    · obtain rfl : j = 16 := by omega
      have hcv : (convert 52 9 (.slice (some ⟨r, 0, none⟩) 16 16)).run Try.prog W = .ok (.string ⟨out.toArray⟩) W := by
        have h := run_convert_bytes_back (P := Try.prog) W 52 9 5 ⟨r, 0, none⟩ 16 (solid x) Try.underlying52 Try.underlying5 Try.underlying9 (fun k hk => by
          rw [Addr.add_mid, Nat.zero_add, cell_of_row W r k _ _ _ HJ.out.1]
          rw [solid_length] at hk
          have e : half16 x 16 = solid x := by simp [half16, solid]
          rw [e]
          simp only [Lib.byteCells, List.getElem?_toArray, List.getElem?_map, List.getElem?_eq_getElem (show k < (solid x).length by rw [solid_length]; exact hk)]
          rfl)
        rw [solid_length, HO.out] at h
        exact h
      have HK := Lib.hid HJ.out.2
      clear HJ hsz
      go_wp2
      go_ret
      exact ⟨rfl, by rw [hr]; exact HK.out⟩

theorem joinB (a b : List UInt8) : (⟨a.toArray⟩ : ByteArray) ++ ⟨b.toArray⟩ = ⟨(a ++ b).toArray⟩ := by
  apply ByteArray.ext
  simp [ByteArray.data_append]

def pw2 : Pw := ⟨true, 1, 2, -1⟩
theorem go_pw0 : Pw.go 2 pw0 = (2, pw2) := by
  have h1 : wrap64 1 = 1 := by decide +kernel
  have h2 : wrap64 2 = 2 := by decide +kernel
  have e1 : pw0.can = true := rfl
  have e2 : pw0.use = ⟨true, 1, 1, -1⟩ := by rw [Pw.use, e1, if_pos rfl]; simp [pw0, h1]
  have e3 : (⟨true, 1, 1, -1⟩ : Pw).can = true := rfl
  have e4 : (⟨true, 1, 1, -1⟩ : Pw).use = pw2 := by rw [Pw.use, e3, if_pos rfl]; simp [pw2, h2]
  rw [Pw.go, e1, if_pos rfl, e2, Pw.go, e3, if_pos rfl, e4, Pw.go]

def awM : Int → Option (List UInt8) := putN (fun _ => none) 1 (solid 97 ++ solid 98) 2
theorem aw_nows : nows (List.replicate 3 zeroS) awM 0 3 = (solid 0 ++ solid 97) ++ solid 98 := by decide +kernel
theorem aw_places : (places (List.replicate 3 zeroS).length awM).length = 2 := by decide +kernel
theorem aw_settle : settle [2] awM (places (List.replicate 3 zeroS).length awM) 0 (List.replicate 3 zeroS) = [solid 0, solid 0, solid 98] := by decide +kernel
theorem aw_nows2 : nows [solid 0, solid 0, solid 98] (fun _ => none) 0 3 = (solid 0 ++ solid 0) ++ solid 98 := by decide +kernel

set_option maxHeartbeats 2000000 in
set_option maxRecDepth 100000 in
theorem awake4 (w : World) : Calls Try.prog 6 #[] w fun e w' => e = .returned (.bool true) ∧ KeptIn (· < w.heap.size) w w' := by
  obtain ⟨z, hz⟩ : ∃ z, solid 0 = z := ⟨_, rfl⟩
  obtain ⟨a, ha⟩ : ∃ a, solid 97 = a := ⟨_, rfl⟩
  obtain ⟨b, hb⟩ : ∃ b, solid 98 = b := ⟨_, rfl⟩
  have HZ := Lib.hid hz; have HA := Lib.hid ha; have HB := Lib.hid hb
  have sZ := lSector 0; have sA := lSector 97; have sB := lSector 98
  rw [hz] at sZ; rw [ha] at sA; rw [hb] at sB
  have SZ := Lib.hid sZ; have SA := Lib.hid sA; have SB := Lib.hid sB
  have lz : z.length = 16 := by rw [← hz]; exact solid_length _
  have la : a.length = 16 := by rw [← ha]; exact solid_length _
  have lb : b.length = 16 := by rw [← hb]; exact solid_length _
  clear sZ sA sB hz ha hb
  go_enter Try.func6, Try.ntmps6
  go_wp2_with (go_at_call 7; refine (vNew (w := w) w (KeptIn.refl _ w)).mono ?_)
  rintro e w1 ⟨m, rfl, hp1, hm1, hk1⟩
  obtain ⟨S3, hS3⟩ : ∃ S3, List.replicate 3 zeroS = S3 := ⟨_, rfl⟩
  have c2 := vMade (w := w) w1 hk1 hp1 hm1 3 3 (by decide)
  have hn3 : S3.length = 3 := by rw [← hS3]; rfl
  rw [hS3] at c2
  have C2 := Lib.hid c2; have HS3 := Lib.hid hS3; have HN3 := Lib.hid hn3
  clear c2 hS3 hn3
  clear hp1 hm1 hk1
  go_wp2_with (go_at_call 16; refine C2.out.mono ?_)
  rintro e w2 ⟨d, s, k, rfl, hd2⟩
  have HD2 := Lib.hid hd2; clear hd2 C2
  go_wp2_with (go_at_call 22; refine (SA.out _).mono ?_)
  rintro e w3 ⟨rfl, hk3⟩
  have HD3 := Lib.hid (HD2.out.old hk3); clear hk3 HD2
  go_wp2_with (go_at_call 22; refine (SB.out _).mono ?_)
  rintro e w4 ⟨rfl, hk4⟩
  have HD4 := Lib.hid (HD3.out.old hk4); clear hk4 HD3
  have hM : putN (fun _ => none) 1 (a ++ b) 2 = awM := by rw [← HA.out, ← HB.out]; rfl
  have cw := vWrite HD4.out 1 (a ++ b) 2 (by rw [List.length_append, la, lb]; decide) (by rw [List.length_append, la, lb]) (by rw [HN3.out]; decide) (by decide)
  rw [go_pw0, if_pos rfl, hM, ← joinB] at cw
  have CW := Lib.hid cw
  clear cw hM
  go_wp2_with (go_at_call 19; refine CW.out.mono ?_)
  rintro e w5 ⟨rfl, hd5⟩
  have HD5 := Lib.hid hd5; clear hd5 CW HD4
  have cr := vRead HD5.out rfl 0 0 3 rfl (by rw [HN3.out]; decide)
  rw [← HS3.out, aw_nows, HS3.out, HZ.out, HA.out, HB.out, ← joinB, ← joinB] at cr
  have CR := Lib.hid cr; clear cr
  go_wp2_with (go_at_call 18; refine CR.out.mono ?_)
  rintro e w6 ⟨rfl, hd6⟩
  have HD6 := Lib.hid hd6; clear hd6 CR HD5
  go_wp2_with (go_at_call 11; refine (vLoose HD6.out).mono ?_)
  rintro e w7 ⟨v, rfl, hv, hd7⟩
  obtain ⟨a7, cap7, rfl, _⟩ := hv.shape
  have hpl : (places S3.length awM).length = 2 := by rw [← HS3.out]; exact aw_places
  rw [hpl]
  have HD7 := Lib.hid hd7; clear hd7 hv HD6
  go_wp2_with (go_at_call 23; refine (vCut HD7.out).mono ?_)
  rintro e w8 ⟨rfl, hd8⟩
  have HD8 := Lib.hid hd8; clear hd8 HD7
  have cs := vSettle HD8.out rfl [2] (by decide)
  rw [← HS3.out, aw_settle] at cs
  obtain ⟨S4, hS4⟩ : ∃ S4, [solid 0, solid 0, solid 98] = S4 := ⟨_, rfl⟩
  have hn4 : S4.length = 3 := by rw [← hS4]; rfl
  rw [hS4] at cs
  have HS4 := Lib.hid hS4; have HN4 := Lib.hid hn4
  clear hS4 hn4
  have CS := Lib.hid cs; clear cs
  go_wp2_with (go_at_call 21; refine CS.out.mono ?_)
  rintro e w9 ⟨rfl, hd9⟩
  have HD9 := Lib.hid hd9; clear hd9 CS HD8
  go_wp2_with (go_at_call 24; refine (vCome HD9.out).mono ?_)
  rintro e w10 ⟨rfl, hd10⟩
  have HD10 := Lib.hid hd10; clear hd10 HD9
  have cr := vRead HD10.out rfl 0 0 3 rfl (by rw [HN4.out]; decide)
  rw [← HS4.out, aw_nows2, HS4.out, HZ.out, HB.out, ← joinB, ← joinB] at cr
  have CR := Lib.hid cr; clear cr
  go_wp2_with (go_at_call 18; refine CR.out.mono ?_)
  rintro e w11 ⟨rfl, hd11⟩
  have HD11 := Lib.hid hd11; clear hd11 CR HD10
  go_wp2_with (go_at_call 22; refine (SZ.out _).mono ?_)
  rintro e w12 ⟨rfl, hk12⟩
  have HD12 := Lib.hid (HD11.out.old hk12); clear hk12 HD11
  have cl := dLen _ _ _ _ _ _ _ _ HD12.out.isD
  rw [HN4.out] at cl
  have CL := Lib.hid cl; clear cl
  go_wp2_with (go_at_call 15; refine CL.out.mono ?_)
  rintro e w13 ⟨rfl, rfl⟩
  go_wp2_with (go_at_call 22; refine (SA.out _).mono ?_)
  rintro e w14 ⟨rfl, hk14⟩
  have HD14 := Lib.hid (HD12.out.old hk14); clear hk14 HD12
  go_wp2_with (go_at_call 22; refine (SB.out _).mono ?_)
  rintro e w15 ⟨rfl, hk15⟩
  have HD15 := Lib.hid (HD14.out.old hk15); clear hk15 HD14
  go_wp2_with (go_at_call 22; refine (SB.out _).mono ?_)
  rintro e w16 ⟨rfl, hk16⟩
  have HD16 := Lib.hid (HD15.out.old hk16); clear hk16 HD15
  have C17 := Lib.hid (dWriteRange d m s k 0 S4 (fun _ => none) 3 z 1 w16 HD16.out.isD (by decide) (by rw [lz]; decide) lz (by rw [HN4.out]; rfl))
  go_wp2_with (go_at_call 19; refine C17.out.mono ?_)
  rintro e w17 ⟨rfl, rfl⟩
  have C18 := Lib.hid (dWriteArg d 0 [97] w16 (by decide) (by decide))
  go_wp2_with (go_at_call 19; refine C18.out.mono ?_)
  rintro e w18 ⟨rfl, rfl⟩
  go_wp2
  go_ret
  exact ⟨rfl, HD16.out.kept⟩

end Go.Proofs.Ytbgkfeikfkbfmaa
