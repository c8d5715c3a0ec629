/- tiercelaw18.awake: what the document fixes by number. -/
import Derived.Test.YtmfnapbahkonhaaLw18
import Derived.Test.YtmfnapbahkonhaaZeros4
import Derived.Test.YtmfnapbahkonhaaBytes
set_option linter.unusedVariables false
namespace Go.Proofs.Ytmfnapbahkonhaa
open Go.RowKit

/-- The sixteen bytes that awake writes. -/
def hexL : List UInt8 := [48, 49, 50, 51, 52, 53, 54, 55, 56, 57, 97, 98, 99, 100, 101, 102]
def awD0 (d s b : Nat) : Dsk := ⟨d, s, b, 0, List.replicate 9 zeroS, fun _ => none⟩
def awD1 (d s b : Nat) : Dsk := ⟨d, s, b, 0, List.replicate 4 zeroS, fun _ => none⟩
theorem go_free1 (p : Pw) (h : p.can = true) : Pw.go 1 p = (1, p.use) := by rw [Pw.go, h, if_pos rfl, Pw.go]
theorem aw18_can : pw0.can = true := rfl
theorem aw18_r0 : nows (List.replicate 9 zeroS) (putN (fun _ => none) 7 hexL 1) 7 1 = hexL := by decide +kernel
theorem aw18_r1 : nows (List.replicate 9 zeroS) (putN (fun _ => none) 7 hexL 1) 6 2 = List.replicate 16 0 ++ hexL := by decide +kernel

set_option maxHeartbeats 4000000 in
set_option maxRecDepth 100000 in
theorem awake18 (w : World) : Calls Try.prog 6 #[] w fun e w' => e = .returned (.bool true) ∧ KeptIn (· < w.heap.size) w w' := by
  obtain ⟨hx, hhx⟩ : ∃ l, hexL = l := ⟨_, rfl⟩
  have HHX := Lib.hid hhx
  have hxl : hx.length = 16 := by rw [← hhx]; rfl
  have HXL := Lib.hid hxl
  have HXV : Hid ((⟨#[48, 49, 50, 51, 52, 53, 54, 55, 56, 57, 97, 98, 99, 100, 101, 102]⟩ : ByteArray) = ⟨hx.toArray⟩) := Lib.hid (by rw [← hhx]; rfl)
  clear hhx hxl
  go_enter Try.func6, Try.ntmps6
  go_wp2_with (go_at_call 7; refine (vNew (w := w) w (KeptIn.refl _ w)).mono ?_)
  rintro e w1 ⟨m, rfl, hp1, hm1, hk1⟩
  have C2 := Lib.hid (vMade (w := w) w1 hk1 hp1 hm1 9 9 (by decide))
  clear hp1 hm1 hk1
  go_wp2_with (go_at_call 29; refine C2.out.mono ?_)
  rintro e w2 ⟨d, s, b, rfl, hd2⟩
  have C3 := Lib.hid (uMade hd2 4 4 (by decide))
  clear hd2 C2
  go_wp2_with (go_at_call 29; refine C3.out.mono ?_)
  rintro e w3 ⟨d2, s2, b2, rfl, hd3⟩
  obtain ⟨T, hT⟩ : ∃ T, mkT ⟨d, s, b, 0, List.replicate 9 zeroS, fun _ => none⟩ ⟨d2, s2, b2, 0, List.replicate 4 zeroS, fun _ => none⟩ = T := ⟨_, rfl⟩
  rw [hT] at hd3
  have e0 : (T 0).d = d := by rw [← hT]; rfl
  have e1 : (T 1).d = d2 := by rw [← hT]; rfl
  have hl0 : (T 0).S.length = 9 := by rw [← hT]; rfl
  have hl1 : (T 1).S.length = 4 := by rw [← hT]; rfl
  have hM0 : (T 0) = ⟨d, s, b, 0, List.replicate 9 zeroS, fun _ => none⟩ := by rw [← hT]; rfl
  have cn := uNew hd3 2 (by rw [hl0, hl1]; decide)
  rw [e0, e1] at cn
  have C4 := Lib.hid cn
  have HM := Lib.hid hM0
  have HE := Lib.hid (And.intro e0 (And.intro e1 (And.intro hl0 hl1)))
  clear cn hd3 C3 hT e0 e1 hl0 hl1 hM0
  go_wp2_with (go_at_call 9; refine C4.out.mono ?_)
  rintro e w4 ⟨rfl, hd4⟩
  obtain ⟨k, hk⟩ : ∃ k, w3.heap.size = k := ⟨_, rfl⟩
  rw [hk] at hd4 ⊢
  have HD4 := Lib.hid hd4
  clear hd4 C4 hk
  have n0 : slN T 2 0 = 4 := by unfold slN; rw [HE.out.2.2.1]; decide
  have n1 : slN T 2 1 = 2 := by unfold slN; rw [HE.out.2.2.2]; decide
  have HN := Lib.hid (And.intro n0 n1)
  have cw := ckWrite HD4.out.dk 0 3 1 1 hx (by decide) (by rw [n0]; decide) (by rw [HXL.out]) (by decide) (by rw [HM.out]; show 0 + 1 < maxLen; unfold maxLen; omega)
  unfold wrE at cw
  rw [go_free1 _ aw18_can, if_pos rfl] at cw
  simp only [spV] at cw
  have CW := Lib.hid cw
  clear cw n0 n1
  go_upto_region 7 with fail
  rw [HXV.out]
  go_wp2_with (go_at_call 22; refine CW.out.mono ?_)
  rintro e w5 ⟨rfl, hw5⟩
  have h5 := HD4.out.wr (by decide) hw5
  rw [go_free1 _ aw18_can] at h5
  have HD5 := Lib.hid h5
  clear h5 hw5 CW HD4
  have q0 := HD5.out.dk.isD 0 (by decide)
  rw [upT_self] at q0
  have hlen : (upT T 0 ((T 0).wr 1 ((3 * 2 + 1 : Nat) : Int) hx 1) 0).S.length = 9 := by rw [upT_self]; exact HE.out.2.2.1
  have hslS : ((T 0).wr 1 ((3 * 2 + 1 : Nat) : Int) hx 1).S.length = (T 0).S.length := rfl
  have cr : Calls Try.prog 23 #[.pointer (some ⟨d, 0, none⟩), .int .i64 7, .int .i64 1] w5 fun e w' => e = .returned (.tuple #[.string ⟨hx.toArray⟩, .int .i64 0]) ∧ KeptIn (· < w5.heap.size) w5 w' := by
    have := dRead _ _ _ _ _ _ _ _ 7 7 1 w5 q0 HD5.out.dk.isP rfl rfl (by show 7 + 1 ≤ (T 0).S.length; rw [HE.out.2.2.1]; decide)
    simp only [Dsk.wr, HM.out] at this
    rw [← HHX.out, show ((3 * 2 + 1 : Nat) : Int) = 7 from rfl, aw18_r0, HHX.out] at this
    exact this
  have CR := Lib.hid cr
  have cq : ∀ V, KeptIn (· < w5.heap.size) w5 V → Calls Try.prog 13 #[.pointer (some ⟨k, 0, none⟩), .agg #[.int .i64 0, .int .i64 3], .int .i64 0, .int .i64 2] V fun e w' => e = .returned (.tuple #[.string ⟨(List.replicate 16 0 ++ hx).toArray⟩, .int .i64 0]) ∧ KeptIn (· < V.heap.size) V w' := fun V hV => by
    have := ckRead (HD5.out.dk.old hV) 0 3 0 2 (by decide) (by rw [slN_up hslS, HN.out.1]; decide) (by decide) rfl
    rw [upT_self] at this
    simp only [Dsk.wr, HM.out, spV] at this
    rw [← HHX.out, show ((3 * 2 + 1 : Nat) : Int) = 7 from rfl, show 3 * 2 + 0 = 6 from rfl, aw18_r1, HHX.out] at this
    exact this
  have CQ := Lib.hid cq
  have CS0 := Lib.hid fun V (hV : KeptIn (· < w5.heap.size) w5 V) => by
    have := ckSlots (HD5.out.dk.old hV) 0
    rwa [slI_up hslS, show slI T 2 0 = 4 by unfold slI; rw [if_pos rfl, HN.out.1]; rfl] at this
  have CS1 := Lib.hid fun V (hV : KeptIn (· < w5.heap.size) w5 V) => by
    have := ckSlots (HD5.out.dk.old hV) 1
    rwa [slI_up hslS, show slI T 2 1 = 2 by unfold slI; rw [if_neg (by decide), if_pos rfl, HN.out.2]; rfl] at this
  have CSZ := Lib.hid fun V (hV : KeptIn (· < w5.heap.size) w5 V) => ckSize (HD5.out.dk.old hV)
  have HK5 := Lib.hid HD5.out.kept
  clear cr cq q0 hlen hslS HD5
  go_wp2_with (go_at_call 23; refine CR.out.mono ?_)
  rintro e w6 ⟨rfl, hk6⟩
  have HK6 := Lib.hid hk6
  clear hk6 CR
  go_wp2_with (go_at_call 13; refine (CQ.out _ HK6.out).mono ?_)
  rintro e w7 ⟨rfl, hk7⟩
  have HK7 := Lib.hid (HK6.out.onM hk7)
  clear hk7 CQ HK6
  have CZ := Lib.hid (r4Zeros 1 1 w7 (by decide))
  obtain ⟨z, hz⟩ : ∃ z : List UInt8, List.replicate 16 (0 : UInt8) = z := ⟨_, rfl⟩
  rw [show 16 * 1 = 16 from rfl, hz] at CZ
  rw [hz, ← joinB]
  have hzx : ¬ 9223372036854775807 < z.length + hx.length := by rw [HXL.out, ← hz]; decide
  clear hz
  go_wp2_with (go_at_call 18; refine CZ.out.mono ?_)
  rintro e w8 ⟨rfl, hk8⟩
  have HK8 := Lib.hid (HK7.out.onM hk8)
  clear hk8 CZ HK7
  go_wp2_with (go_at_call 27; refine (CS0.out _ HK8.out).mono ?_)
  rintro e _ ⟨rfl, rfl⟩
  go_wp2_with (go_at_call 27; refine (CS1.out _ HK8.out).mono ?_)
  rintro e _ ⟨rfl, rfl⟩
  go_wp2_with (go_at_call 10; refine (CSZ.out _ HK8.out).mono ?_)
  rintro e _ ⟨rfl, rfl⟩
  go_wp2
  go_ret
  exact ⟨rfl, HK5.out.onM HK8.out⟩

end Go.Proofs.Ytmfnapbahkonhaa
