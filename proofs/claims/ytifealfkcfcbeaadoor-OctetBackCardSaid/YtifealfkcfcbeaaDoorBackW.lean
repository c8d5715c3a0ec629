/- OctetBack of layer 1: the walk: it returns true for every input and writes nothing that was there. -/
import Derived.Test.YtifealfkcfcbeaaDoorAw1
import Derived.Test.YtifealfkcfcbeaaDoorArgs
import Derived.OpenShut
import Derived.IntWalk
set_option linter.unusedVariables false
namespace Go.Proofs.YtifealfkcfcbeaaDoor
open Go.RowKit

/-- What the first j rounds have written. -/
def enc (zs ks : List Int) (s : List UInt8) : Nat → List UInt8
  | 0 => []
  | j + 1 => enc zs ks s j ++ (bytesLE (zs.getD j 0).toNat (szOf (ks.getD j 0)) ++ s)

theorem enc_length (zs ks : List Int) (s : List UInt8) (j : Nat) : (enc zs ks s j).length ≤ j * (8 + s.length) := by
  induction j with
  | zero => simp [enc]
  | succ j ih =>
    have := szOf_le (ks.getD j 0)
    rw [enc, List.length_append, List.length_append, bytesLE_length, Nat.succ_mul]
    omega

theorem enc_room (zs ks : List Int) (s : List UInt8) (j : Nat) (hj : j ≤ 60) (hs : s.length ≤ 100) : (enc zs ks s j).length + 8 + 100 ≤ 2147483647 := by
  have h := enc_length zs ks s j
  have : j * (8 + s.length) ≤ 60 * 108 := Nat.mul_le_mul hj (by omega)
  omega

/-- What the rounds from j on have written. -/
def rest (zs ks : List Int) (s : List UInt8) (n j : Nat) : List UInt8 := (enc zs ks s n).drop (enc zs ks s j).length

theorem enc_rest (zs ks : List Int) (s : List UInt8) (n j : Nat) (h : j ≤ n) : enc zs ks s n = enc zs ks s j ++ rest zs ks s n j := by
  have : ∃ t, enc zs ks s n = enc zs ks s j ++ t := by
    induction n with
    | zero => obtain rfl : j = 0 := by omega
              exact ⟨[], by simp⟩
    | succ n ih =>
      by_cases e : j = n + 1
      · subst e; exact ⟨[], by simp⟩
      · obtain ⟨t, ht⟩ := ih (by omega)
        exact ⟨t ++ (bytesLE (zs.getD n 0).toNat (szOf (ks.getD n 0)) ++ s), by rw [enc, ht, List.append_assoc]⟩
  obtain ⟨t, ht⟩ := this
  rw [rest, ht, List.drop_left]

theorem rest_step (zs ks : List Int) (s : List UInt8) (n j : Nat) (h : j < n) : rest zs ks s n j = bytesLE (zs.getD j 0).toNat (szOf (ks.getD j 0)) ++ (s ++ rest zs ks s n (j + 1)) := by
  have h1 := enc_rest zs ks s n j (by omega)
  have h2 := enc_rest zs ks s n (j + 1) (by omega)
  rw [h2, enc, List.append_assoc] at h1
  have := List.append_cancel_left h1
  rw [← this, List.append_assoc]

theorem rest_all (zs ks : List Int) (s : List UInt8) (n : Nat) : rest zs ks s n n = [] := by
  rw [rest]; simp

theorem takeR_app (a t : List UInt8) (n : Int) (hn : n = a.length) : takeR n (a ++ t) false = (a, t, false) := by
  subst hn
  unfold takeR
  by_cases h : (a.length : Int) ≤ 0
  · have : a = [] := by
      cases a with
      | nil => rfl
      | cons x r => simp at h; omega
    subst this
    rw [if_pos h]; rfl
  · rw [if_neg h, if_neg (by simp; omega)]
    simp

set_option maxHeartbeats 1000000 in
set_option maxRecDepth 100000 in
theorem backW (a0 : Option Addr) (len0 cap0 : Nat) (z0 : List Int) (a1 : Option Addr) (len1 cap1 : Nat) (z1 : List Int) (s : ByteArray) (w : World) (w0 : IsRow .u64 w a0 len0 cap0 z0) (w1 : IsRow .i64 w a1 len1 cap1 z1) (w2 : s.size ≤ maxLen) :
    Calls Tryd.prog 5 #[.slice a0 len0 cap0, .slice a1 len1 cap1, .string s] w fun e w' => e = .returned (.bool true) ∧ KeptIn (· < w.heap.size) w w' := by
  have l0 := w0.len_le; have l1 := w1.len_le
  unfold maxLen at l0 l1 w2
  have b0 : (len0 : Int) ≤ 9223372036854775807 := by omega
  have b1 : (len1 : Int) ≤ 9223372036854775807 := by omega
  have b2 : (s.size : Int) ≤ 9223372036854775807 := by omega
  have W0 := Lib.hid w0; have W1 := Lib.hid w1
  clear w0 w1 l0 l1 w2
  by_cases hs : (100 : Int) < (s.size : Int)
  · go_enter Tryd.func5, Tryd.ntmps5
    go_wp2_with fail
    refine (awake1 w).mono ?_
    rintro e w3 ⟨rfl, k3⟩
    go_wp2
    go_ret
    exact ⟨rfl, k3⟩
  · obtain ⟨n, hn, n0, n1, n2⟩ : ∃ n : Nat, min (min (len0 : Int) (len1 : Int)) 60 = (n : Int) ∧ n ≤ len0 ∧ n ≤ len1 ∧ n ≤ 60 := ⟨min (min len0 len1) 60, by omega, by omega, by omega, by omega⟩
    have n3 : (n : Int) ≤ 60 := by omega
    have hs' : s.data.toList.length ≤ 100 := by rw [← Lib.size_eq]; omega
    have n4 : (0 : Int) ≤ (n : Int) := by omega
    go_enter Tryd.func5, Tryd.ntmps5
    go_wp2_with fail
    refine (awake1 w).mono ?_
    rintro e w3 ⟨rfl, k3⟩
    go_wp2_with fail
    clear hn
    have hX3 : ∀ k, k < w.heap.size → k < w3.heap.size := fun k h => Nat.lt_of_lt_of_le h k3.size
    have h0 : Holds (· < w.heap.size) w3.heap.size [] (w3.alloc (.cells #[.pointer none, .int .i64 0, .int .i64 0] 27)) := Holds.fresh _ w3 hX3
    have k4 : KeptIn (· < w.heap.size) w (w3.alloc (.cells #[.pointer none, .int .i64 0, .int .i64 0] 27)) := k3.alloc (fun _ h => h) _
    have H0 : Hid (Holds (· < w.heap.size) w3.heap.size (enc z0 z1 s.data.toList 0) (w3.alloc (.cells #[.pointer none, .int .i64 0, .int .i64 0] 27)) ∧ KeptIn (· < w.heap.size) w (w3.alloc (.cells #[.pointer none, .int .i64 0, .int .i64 0] 27))) := Lib.hid ⟨h0, k4⟩
    clear h0 k4 hX3 k3
    generalize w3.alloc (.cells #[.pointer none, .int .i64 0, .int .i64 0] 27) = w4 at *
    generalize w3.heap.size = a at *
    go_loopw [9] (fun c W => ∃ j : Nat, j ≤ n ∧ c = .int .i64 j ∧ Hid (Holds (· < w.heap.size) a (enc z0 z1 s.data.toList j) W ∧ KeptIn (· < w.heap.size) w W)) (fun c _ => n - (intOf c).toNat)
    case atStart => exact ⟨0, Nat.zero_le _, rfl, H0⟩
    case round =>
      obtain ⟨j, hj, rfl, HJ⟩ := hrel
      clear H0
      by_cases hlt : j < n
      · obtain ⟨ba, oa, rfl, hba, hca⟩ := W0.out.elem (by omega)
        obtain ⟨bb, ob, rfl, hbb, hcb⟩ := W1.out.elem (by omega)
        rename_i wr
        obtain ⟨ca, fa⟩ := hca j (by omega)
        obtain ⟨cb, fb⟩ := hcb j (by omega)
        have ca' : wr.cell? ⟨ba, oa + j, none⟩ = some (.int .u64 (z0.getD j 0)) := (World.cell?_of_block (HJ.out.2.block ba hba)).trans ca
        have cb' : wr.cell? ⟨bb, ob + j, none⟩ = some (.int .i64 (z1.getD j 0)) := (World.cell?_of_block (HJ.out.2.block bb hbb)).trans cb
        clear hca hcb ca cb
        obtain ⟨za, hza, hzl⟩ : ∃ za : Nat, z0.getD j 0 = (za : Int) ∧ za < 18446744073709551616 := by
          have := bounds_u64 fa
          exact ⟨(z0.getD j 0).toNat, by omega, by omega⟩
        obtain ⟨zb, hzb⟩ : ∃ zb : Int, z1.getD j 0 = zb := ⟨_, rfl⟩
        have fb' := bounds_i64 fb
        rw [hza] at ca'
        rw [hzb] at cb' fb'
        have HZA := Lib.hid hza; have HZB := Lib.hid hzb
        clear hza hzb fa fb
        have i0 : (j : Int) < (len0 : Int) := by omega
        have i1 : (j : Int) < (len1 : Int) := by omega
        have i2 : (0 : Int) ≤ (j : Int) := by omega
        go_wp2_with fail
        go_region_held3 (fun w' => w'.cell? ⟨ba, oa + j, none⟩ = some (.int .u64 (za : Int)) ∧ w'.cell? ⟨bb, ob + j, none⟩ = some (.int .i64 zb)) (first | exact And.intro ((World.cell?_of_block (h2.block ba hba)).trans (by first | exact ca' | assumption)) ((World.cell?_of_block (h2.block bb hbb)).trans (by first | exact cb' | assumption)) | exact And.intro ca' cb' | go_keep)
          (first | (go_at_call 8; refine (hPut (· < w.heap.size) a (enc z0 z1 s.data.toList j) za _ _ ?_ ?_ hzl ?_).mono ?_; (exact HJ.out.1); (exact HJ.out.2.lt (fun _ h => h)); (have h9 := enc_room z0 z1 s.data.toList j (by omega) hs'; omega); rintro e w' ⟨rfl, h1, h2⟩))
        rw [szOf_walk, szOf_near] at h1
        have hlen1 := enc_room z0 z1 s.data.toList j (by omega) hs'
        have hk1 : KeptIn (· < w.heap.size) w w' := HJ.out.2.trans ((KeptIn.refl _ _).drew.trans h2)
        have H1 := Lib.hid h1
        clear h1 h2 HJ ca' cb'
        rename_i hHeld
        clear hHeld
        rename_i w5 _ _
        go_wp2_with fail
        refine (hText (· < w.heap.size) a _ s _ H1.out (hk1.lt (fun _ h => h)) (by rw [List.length_append, bytesLE_length, Lib.size_eq]; have := szOf_le zb; omega)).mono ?_
        rintro e w7 ⟨rfl, h7, k7⟩
        have H7 : Hid (Holds (· < w.heap.size) a (enc z0 z1 s.data.toList (j + 1)) w7 ∧ KeptIn (· < w.heap.size) w w7) := by
          refine Lib.hid ⟨?_, hk1.trans k7⟩
          rw [enc, HZA.out, HZB.out, ← List.append_assoc]
          exact h7
        clear h7 k7 H1 hk1 hlen1 HZA HZB
        go_wp2_with fail
        go_roundw
        case rel => exact ⟨j + 1, by omega, by go_num, H7⟩
        case measure => simp [intOf]; omega
      · obtain rfl : j = n := by omega
        go_wp2_with fail
        have hlen1 := enc_room z0 z1 s.data.toList j n2 hs'
        refine (hString (· < w.heap.size) a _ _ HJ.out.1 (HJ.out.2.lt (fun _ h => h)) (by omega)).mono ?_
        rintro e w5 ⟨rfl, h5, k5⟩
        have hk5 := HJ.out.2.trans k5
        clear HJ h5 k5
        go_wp2_with fail
        refine (ofW _ w5).mono ?_
        rintro e w6 ⟨rfl, r6, k6⟩
        have hrX : ¬ w5.heap.size < w.heap.size := by have := hk5.size; omega
        have H6 : Hid (IsR w5.heap.size (rest z0 z1 s.data.toList j 0) false w6 ∧ KeptIn (· < w.heap.size) w w6) := by
          refine Lib.hid ⟨?_, hk5.trans (k6.mono (hk5.lt (fun _ h => h)))⟩
          have e := enc_rest z0 z1 s.data.toList j 0 (Nat.zero_le _)
          rw [show enc z0 z1 s.data.toList 0 = [] from rfl, List.nil_append] at e
          rw [← e]
          exact r6
        clear r6 k6 hk5
        generalize w5.heap.size = r at *
        go_wp2_with fail
        go_loopw [11] (fun c W => ∃ i : Nat, i ≤ j ∧ c = .int .i64 i ∧ Hid (IsR r (rest z0 z1 s.data.toList j i) false W ∧ KeptIn (· < w.heap.size) w W)) (fun c _ => j - (intOf c).toNat)
        case atStart => exact ⟨0, Nat.zero_le _, rfl, H6⟩
        case round =>
          obtain ⟨i, hi, rfl, HI⟩ := hrel
          clear H6
          by_cases hlt : i < j
          · obtain ⟨ba, oa, rfl, hba, hca⟩ := W0.out.elem (by omega)
            obtain ⟨bb, ob, rfl, hbb, hcb⟩ := W1.out.elem (by omega)
            obtain ⟨ca, fa⟩ := hca i (by omega)
            obtain ⟨cb, fb⟩ := hcb i (by omega)
            have ca' := (World.cell?_of_block (a := ⟨ba, oa + i, none⟩) (HI.out.2.block ba hba)).trans ca
            have cb' := (World.cell?_of_block (a := ⟨bb, ob + i, none⟩) (HI.out.2.block bb hbb)).trans cb
            clear hca hcb ca cb
            have hstep := rest_step z0 z1 s.data.toList j i hlt
            obtain ⟨za, hza, hzl⟩ : ∃ za : Nat, z0.getD i 0 = (za : Int) ∧ za < 18446744073709551616 := by
              have := bounds_u64 fa
              exact ⟨(z0.getD i 0).toNat, by omega, by omega⟩
            obtain ⟨zb, hzb⟩ : ∃ zb : Int, z1.getD i 0 = zb := ⟨_, rfl⟩
            rw [hza] at ca' hstep
            rw [hzb] at cb' hstep
            rw [Int.toNat_natCast] at hstep
            clear hza hzb fa fb
            have hsz := szOf_walk zb
            have hszw := szOf_walk64 zb
            have hle := szOf_le zb
            generalize szOf zb = kk at *
            have HS := Lib.hid hstep; clear hstep
            have i0 : (i : Int) < (len0 : Int) := by omega
            have i1 : (i : Int) < (len1 : Int) := by omega
            have i2 : (0 : Int) ≤ (i : Int) := by omega
            have q0 : (1 : Int) ≤ (kk : Int) := by omega
            have q1 : (kk : Int) ≤ 8 := by omega
            have hget : takeR (min (max (kk : Int) 1) 8) (rest z0 z1 s.data.toList j i) false = (bytesLE za kk, s.data.toList ++ rest z0 z1 s.data.toList j (i + 1), false) := by
              rw [HS.out]
              exact takeR_app _ _ _ (by rw [bytesLE_length]; omega)
            have htake : takeR (s.size : Int) (s.data.toList ++ rest z0 z1 s.data.toList j (i + 1)) false = (s.data.toList, rest z0 z1 s.data.toList j (i + 1), false) := takeR_app _ _ _ (by rw [Lib.size_eq])
            have hrl : (rest z0 z1 s.data.toList j i).length ≤ 2147483647 := by
              have e := congrArg List.length (enc_rest z0 z1 s.data.toList j i hi)
              rw [List.length_append] at e
              omega
            have hrl2 : (s.data.toList ++ rest z0 z1 s.data.toList j (i + 1)).length ≤ 2147483647 := by
              have e := congrArg List.length HS.out
              rw [List.length_append] at e
              omega
            have HG := Lib.hid hget; have HT := Lib.hid htake; have HL := Lib.hid hrl; have HL2 := Lib.hid hrl2
            clear hget htake hrl hrl2
            by_cases h8 : (kk : Int) < 8
            · obtain ⟨P, hPe, hPn⟩ : ∃ P : Nat, P = 2 ^ (8 * kk) ∧ 0 < P := ⟨_, rfl, Nat.two_pow_pos _⟩
              have hnum : numLE (bytesLE za kk) = za % P := by rw [hPe]; exact numLE_bytesLE za kk
              have hP : IntKind.u64.wrap ((2 : Int) ^ (8 * kk)) = (P : Int) := by
                have h1 := pow_le kk (by omega)
                rw [IntKind.wrap_u64, show ((2 : Int) ^ (8 * kk)) = (P : Int) from by rw [hPe]; simp]
                exact Int.emod_eq_of_lt (by omega) (by omega)
              have HN := Lib.hid hnum
              clear hnum hPe
              have p0 : (0 : Int) < (P : Int) := by omega
              have p1 : ((P : Int) == 0) = false := by simp; omega
              go_wp2_with fail
              refine (getW (· < w.heap.size) r _ false (kk : Int) _ HI.out.1 hrX (HI.out.2.lt (fun _ h => h)) HL.out).mono ?_
              rintro e w8 ⟨he, r8, k8⟩
              rw [HG.out] at he r8
              rw [HN.out, Int.natCast_emod] at he
              have hk8 := HI.out.2.trans k8
              subst he
              have R8 := Lib.hid r8; have K8 := Lib.hid hk8
              clear r8 k8 hk8
              go_wp2_with fail
              refine (takeW r _ false (s.size : Int) _ R8.out HL2.out).mono ?_
              rintro e w9 ⟨he, r9, k9⟩
              rw [HT.out] at he r9
              simp only [Lib.mk_data] at he
              subst he
              have H9 : Hid (IsR r (rest z0 z1 s.data.toList j (i + 1)) false w9 ∧ KeptIn (· < w.heap.size) w w9) := Lib.hid ⟨r9, K8.out.trans (k9.mono (fun k h e => hrX (e ▸ h)))⟩
              clear r9 k9 R8 K8 HG HT HL HL2 HI HS HN
              go_wp2_with fail
              go_roundw
              case rel => exact ⟨i + 1, by omega, by go_num, H9⟩
              case measure => simp [intOf]; omega
            · have hnum : numLE (bytesLE za kk) = za := by
                obtain rfl : kk = 8 := by omega
                rw [numLE_bytesLE]
                exact Nat.mod_eq_of_lt hzl
              have HN := Lib.hid hnum
              clear hnum
              go_wp2_with fail
              refine (getW (· < w.heap.size) r _ false (kk : Int) _ HI.out.1 hrX (HI.out.2.lt (fun _ h => h)) HL.out).mono ?_
              rintro e w8 ⟨he, r8, k8⟩
              rw [HG.out] at he r8
              rw [HN.out] at he
              have hk8 := HI.out.2.trans k8
              subst he
              have R8 := Lib.hid r8; have K8 := Lib.hid hk8
              clear r8 k8 hk8
              go_wp2_with fail
              refine (takeW r _ false (s.size : Int) _ R8.out HL2.out).mono ?_
              rintro e w9 ⟨he, r9, k9⟩
              rw [HT.out] at he r9
              simp only [Lib.mk_data] at he
              subst he
              have H9 : Hid (IsR r (rest z0 z1 s.data.toList j (i + 1)) false w9 ∧ KeptIn (· < w.heap.size) w w9) := Lib.hid ⟨r9, K8.out.trans (k9.mono (fun k h e => hrX (e ▸ h)))⟩
              clear r9 k9 R8 K8 HG HT HL HL2 HI HS HN
              go_wp2_with fail
              go_roundw
              case rel => exact ⟨i + 1, by omega, by go_num, H9⟩
              case measure => simp [intOf]; omega
          · obtain rfl : i = j := by omega
            go_wp2_with fail
            refine (endW r _ false _ HI.out.1).mono ?_
            rintro e _ ⟨he, rfl⟩
            rw [rest_all, show endOf [] false = 0 from by decide] at he
            subst he
            have hfin := HI.out.2
            clear HI
            have HF := Lib.hid hfin; clear hfin
            go_wp2_with fail
            go_ret
            exact ⟨rfl, HF.out⟩

end Go.Proofs.YtifealfkcfcbeaaDoor
