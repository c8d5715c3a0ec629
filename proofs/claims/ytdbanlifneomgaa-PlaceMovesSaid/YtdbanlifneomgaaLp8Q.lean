import Derived.Test.YtdbanlifneomgaaLo8Q
/- Package tree's addLowered. -/
set_option linter.unusedVariables false
namespace Go.Proofs.Ytdbanlifneomgaa
open Go.RowKit

set_option maxHeartbeats 4000000 in
set_option maxRecDepth 100000 in
theorem trLoweredPile {w : World} {s room : Nat} {N : List Nd} {D : Nat → Prop} (h : IsSh w s room N D) (lv cap f : Nat) (a : Option Addr) (l : Pairs) (hl : ListOk2 w s a cap l) (hl2 : l.length ≤ 1000) (hlv : lv ≤ 7) (hNc : N.length ≤ min room 511) (hf : l.length ≤ f) (hno : ¬ (0 < lv ∧ l.length = 1)) :
    Calls Try.prog 52 #[pgV s, leafV (lv : Int) a l.length cap] w (PageS w s room D (pileM (min room 511) f lv l N)) := by
  obtain ⟨LV, hLV⟩ : ∃ LV : Int, (lv : Int) = LV := ⟨_, rfl⟩
  obtain ⟨W, hW⟩ : ∃ W, w.alloc (.cells #[.int .i64 LV, .slice a l.length cap] 27) = W := ⟨_, rfl⟩
  have hkW : KeptIn (· < w.heap.size) w W := by rw [← hW]; exact (KeptIn.refl _ w).alloc (fun _ h => h) _
  have CP := Calls.mono (trPile (h.old hkW) lv cap f a l (hl.old hkW) hl2 (by omega) hNc hf) fun e w' h => h.from hkW
  obtain ⟨n, hn⟩ : ∃ n, l.length = n := ⟨_, rfl⟩
  obtain ⟨R, hR⟩ : ∃ R, pileM (min room 511) f lv l N = R := ⟨_, rfl⟩
  rw [hn, hLV] at CP ⊢
  rw [hn] at hno hW
  have hb : BoxL w.heap.size LV a n cap W := by rw [← hW]; exact BoxL.new w _ _ _ _
  have d0 := hb.c0
  have d1 := hb.c1
  rw [hR] at CP ⊢
  have HP := Lib.hid (Calls.mono CP (R' := fun e w' => ∃ p er : Nat, e = .returned (.tuple #[.int .i64 (p : Int), .int .i64 (er : Int)]) ∧ PageS w s room D R e w') fun e w' h1 => by
    have h2 := h1
    obtain ⟨⟨p, er, e1, e2⟩, e3⟩ := h1
    exact ⟨p, er, e1, h2⟩)
  unfold pgV leafV at *
  by_cases h0 : 0 < lv
  · have z0 : (0 : Int) < LV := by omega
    have z1 : ¬ n = 1 := fun e => hno ⟨h0, e⟩
    have z2 : ((n : Int) == 1) = false := by rw [beq_eq_false_iff_ne]; omega
    have z3 : ¬ (n : Int) = 1 := by omega
    clear hb hLV hno h hl hkW hn hR CP hf hl2 hNc
    go_enter Try.func52, Try.ntmps52
    go_wp2_with (go_at_call 40; refine HP.out.mono ?_; rintro e V ⟨p, er, rfl, hS⟩; have HS := Lib.hid hS; clear hS HP)
    go_ret2
    exact HS.out
  · have z0 : ¬ (0 : Int) < LV := by omega
    clear hb hLV
    clear hno h hl hkW hn hR CP hf hl2 hNc h0
    go_enter Try.func52, Try.ntmps52
    go_wp2_with (go_at_call 40; refine HP.out.mono ?_; rintro e V ⟨p, er, rfl, hS⟩; have HS := Lib.hid hS; clear hS HP)
    go_ret2
    exact HS.out

set_option maxHeartbeats 4000000 in
set_option maxRecDepth 100000 in
theorem trLoweredDown {N : List Nd} (hN : N.length ≤ 511) {w : World} {s room : Nat} {D : Nat → Prop} (h : IsSh w s room N D) (lv cap : Nat) (a : Option Addr) (l : Pairs) (hl : IsPs w a l) (hr : rises l = true) (h1 : l.length = 1) (hlv : lv + 1 ≤ 7) (hval : valAt l 0 ≤ 511) {ps qs : Pairs} {g : List Nat} (hS : SndL N false (lv : Int) (keyAt l 0) (highOf l 0 topH) lv (valAt l 0) ps qs g) (h15 : ps.length ≤ 15) :
    Calls Try.prog 52 #[pgV s, leafV ((lv + 1 : Nat) : Int) a 1 cap] w fun e w' => e = .returned (.tuple #[.int .i64 (lowM N lv (valAt l 0) : Int), .int .i64 0]) ∧ KeptIn (· < w.heap.size) w w' := by
  obtain ⟨LV, hLV⟩ : ∃ LV : Int, ((lv + 1 : Nat) : Int) = LV := ⟨_, rfl⟩
  obtain ⟨W, hW⟩ : ∃ W, w.alloc (.cells #[.int .i64 LV, .slice a 1 cap] 27) = W := ⟨_, rfl⟩
  have hkW : KeptIn (· < w.heap.size) w W := by rw [← hW]; exact (KeptIn.refl _ w).alloc (fun _ h => h) _
  have hb : BoxL w.heap.size LV a 1 cap W := by rw [← hW]; exact BoxL.new w _ _ _ _
  have d0 := hb.c0
  have d1 := hb.c1
  have z0 : (0 : Int) < LV := by omega
  have CT := trToChild (lv + 1) a cap l 0 topH W (hl.old hkW) hr (by omega) (by omega) ⟨by omega, hlv⟩ hval
  rw [show ((lv + 1 : Nat) : Int) - 1 = (lv : Int) by omega, h1, hLV, show ((topH : Nat) : Int) = 18446744073709551615 from rfl] at CT
  have HL : Hid (∀ V, KeptIn (· < W.heap.size) W V → Calls Try.prog 67 #[pgV s, leadV (valAt l 0) false (lv : Int) (keyAt l 0) (highOf l 0 topH)] V fun e w' => e = .returned (.tuple #[.int .i64 (lowM N lv (valAt l 0) : Int), .int .i64 0]) ∧ KeptIn (· < V.heap.size) V w') := Lib.hid fun V hk =>
    trLower hN (h.old (hkW.go hk)) hS (by omega) h15 (highOf_lt l 0 topH hl.fits (by decide))
  obtain ⟨P, hP⟩ : ∃ P, lowM N lv (valAt l 0) = P := ⟨_, rfl⟩
  obtain ⟨vv, hvv⟩ : ∃ vv, valAt l 0 = vv := ⟨_, rfl⟩
  obtain ⟨kk, hkk⟩ : ∃ kk, keyAt l 0 = kk := ⟨_, rfl⟩
  obtain ⟨hh, hhh⟩ : ∃ hh, highOf l 0 topH = hh := ⟨_, rfl⟩
  rw [hP] at HL ⊢
  rw [hvv, hkk, hhh] at CT HL
  rw [hLV]
  unfold pgV leadV leafV at *
  have HCT := Lib.hid CT
  have HK := Lib.hid hkW
  clear hb CT h hl hr h1 hlv hval hS h15 hkW hLV hP hvv hkk hhh
  go_enter Try.func52, Try.ntmps52
  go_wp2_with (first
    | (go_at_call 51; refine HCT.out.mono ?_; rintro e V ⟨rfl, hk⟩; have HC := Lib.hid (HL.out V hk); have HK2 := Lib.hid hk; clear hk)
    | (go_at_call 67; refine HC.out.mono ?_; rintro e V2 ⟨rfl, hk2⟩; have HK3 := Lib.hid hk2; clear hk2))
  go_ret2
  exact ⟨rfl, (HK.out.go HK2.out).go HK3.out⟩

end Go.Proofs.Ytdbanlifneomgaa
