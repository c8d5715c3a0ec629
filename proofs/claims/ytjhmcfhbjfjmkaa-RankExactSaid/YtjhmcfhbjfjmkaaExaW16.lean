/- RankExact. -/
import Derived.Test.YtjhmcfhbjfjmkaaRu16
set_option linter.unusedVariables false
namespace Go.Proofs.Ytjhmcfhbjfjmkaa
open Go.RowKit

set_option maxHeartbeats 4000000 in
set_option maxRecDepth 100000 in
theorem exactW16 (a0 : Option Addr) (len0 cap0 : Nat) (room n heat : Int) (w : World) (w0 : IsIts16 w a0 len0) (w1 : (Lit.int .i64 room).wf = true) (w2 : (Lit.int .i64 n).wf = true) (w3 : (Lit.int .i64 heat).wf = true) :
    Calls Try.prog 3 #[.slice a0 len0 cap0, .int .i64 room, .int .i64 n, .int .i64 heat] w fun e w' => e = .returned (.bool true) ∧ KeptIn (· < w.heap.size) w w' := by
  obtain ⟨l, hl, hi⟩ := w0.list
  have CA := Lib.hid (awake16 w)
  have HI := Lib.hid hi
  have HL := Lib.hid hl
  have HV1 := Lib.hid (rkLevel heat w3)
  have HV2 := Lib.hid (r16Level heat)
  obtain ⟨v, hv⟩ : ∃ v, lv heat = v := ⟨_, rfl⟩
  rw [hv] at HV1 HV2
  clear w0 w1 w2 w3 hi hl hv
  go_enter Try.func3, Try.ntmps3
  go_wp2_with fail
  refine CA.out.mono ?_
  rintro e W ⟨rfl, hk⟩
  have HK := Lib.hid hk
  clear CA hk
  by_cases h40 : 40 < len0
  · have z1 : decide ((40 : Int) < (len0 : Int)) = true := decide_eq_true (by omega)
    have z2 : (40 : Int) < (len0 : Int) := by omega
    go_wp2_with fail
    go_ret
    exact ⟨rfl, HK.out⟩
  have z1 : decide ((40 : Int) < (len0 : Int)) = false := decide_eq_false (by omega)
  have z2 : ¬ (40 : Int) < (len0 : Int) := by omega
  have hl2 : l.length ≤ 1000 := by rw [HL.out]; omega
  have CF := formW16 a0 cap0 l W (HI.out.old HK.out) hl2
  rw [HL.out] at CF
  have HCF := Lib.hid CF
  clear CF
  go_wp2_with fail
  refine HCF.out.mono ?_
  rintro e W2 hF
  have k2 := HK.out.on16 hF.2
  rcases hF.1 with rfl | ⟨a3, c3, rfl, hrow, hR⟩
  · have HK2 := Lib.hid k2
    clear hF k2 HCF HK
    go_wp2_with fail
    refine (HV1.out _).mono ?_
    rintro e _ ⟨rfl, rfl⟩
    go_wp2_with fail
    refine (HV2.out _).mono ?_
    rintro e _ ⟨rfl, rfl⟩
    go_wp2_with fail
    go_ret
    exact ⟨rfl, HK2.out⟩
  have HK2 := Lib.hid k2
  have is3 := hrow.is HI.out.good
  rw [HL.out]
  have HS := Lib.hid (show IsI W2 a3 l from is3)
  obtain ⟨r, hr⟩ : ∃ r, wn l room n = r := ⟨_, rfl⟩
  obtain ⟨ru, hru⟩ : ∃ ru, (pk (upL l) n).ch = ru := ⟨_, rfl⟩
  obtain ⟨rd, hrd⟩ : ∃ rd, (pk (dnL l) n).ch = rd := ⟨_, rfl⟩
  have H1 := Lib.hid (show Calls Try.prog 10 #[.slice a0 len0 cap0, .int .i64 room, .int .i64 n] W2 (WnS W2 r) by rw [← hr, ← HL.out]; exact rkWants a0 cap0 l room n W2 (HI.out.old HK2.out) hl2)
  have H2 := Lib.hid (show ∀ V, KeptIn (· < W2.heap.size) W2 V → Calls Try.prog 11 #[.slice a3 len0 c3, .int .i64 room, .int .i64 n] V (WnS V r) from fun V hk => by rw [← hr, ← HL.out]; exact r16Wants a3 c3 l room n V (HS.out.old hk) hl2 hR)
  have H3 := Lib.hid (show ∀ V, KeptIn (· < W2.heap.size) W2 V → Calls Try.prog 12 #[.slice a0 len0 cap0, .int .i64 n] V (InS V ru) from fun V hk => by rw [← hru, ← HL.out]; exact rkUp a0 cap0 l n V (HI.out.old (HK2.out.on16 hk)) hl2)
  have H4 := Lib.hid (show ∀ V, KeptIn (· < W2.heap.size) W2 V → Calls Try.prog 13 #[.slice a3 len0 c3, .int .i64 n] V (InS V ru) from fun V hk => by rw [← hru, ← HL.out]; exact r16Up a3 c3 l n V (HS.out.old hk) hl2)
  have H5 := Lib.hid (show ∀ V, KeptIn (· < W2.heap.size) W2 V → Calls Try.prog 14 #[.slice a0 len0 cap0, .int .i64 n] V (InS V rd) from fun V hk => by rw [← hrd, ← HL.out]; exact rkDown a0 cap0 l n V (HI.out.old (HK2.out.on16 hk)) hl2)
  have H6 := Lib.hid (show ∀ V, KeptIn (· < W2.heap.size) W2 V → Calls Try.prog 15 #[.slice a3 len0 c3, .int .i64 n] V (InS V rd) from fun V hk => by rw [← hrd, ← HL.out]; exact r16Down a3 c3 l n V (HS.out.old hk) hl2)
  obtain ⟨rc, rt, rb⟩ := r
  clear hF k2 HCF HK is3 HS hr hru hrd hl2 hR hrow HI HL z1 z2
  go_wp2_with fail
  refine (HV1.out _).mono ?_
  rintro e _ ⟨rfl, rfl⟩
  go_wp2_with fail
  refine (HV2.out _).mono ?_
  rintro e W2 ⟨rfl, rfl⟩
  clear HV1 HV2
  go_wp2_with fail
  refine H1.out.mono ?_
  rintro e V1 ⟨rfl, k1⟩
  have K1 := Lib.hid k1
  clear H1 k1
  go_wp2_with fail
  refine (H2.out _ K1.out).mono ?_
  rintro e V2 ⟨rfl, k⟩
  have K2 := Lib.hid (K1.out.on16 k)
  clear H2 K1 k
  go_wp2_with fail
  refine (H3.out _ K2.out).mono ?_
  rintro e V3 ⟨rfl, k⟩
  have K3 := Lib.hid (K2.out.on16 k)
  clear H3 K2 k
  go_wp2_with fail
  refine (H4.out _ K3.out).mono ?_
  rintro e V4 ⟨rfl, k⟩
  have K4 := Lib.hid (K3.out.on16 k)
  clear H4 K3 k
  go_wp2_with fail
  refine (H5.out _ K4.out).mono ?_
  rintro e V5 ⟨rfl, k⟩
  have K5 := Lib.hid (K4.out.on16 k)
  clear H5 K4 k
  go_wp2_with fail
  refine (H6.out _ K5.out).mono ?_
  rintro e V6 ⟨rfl, k⟩
  have K6 := Lib.hid (HK2.out.on16 (K5.out.on16 k))
  clear H6 K5 k
  have y1 : (ru == ru) = true := beq_self_eq_true _
  have y2 : (rd == rd) = true := beq_self_eq_true _
  have y3 : (rc == rc) = true := beq_self_eq_true _
  have y4 : (rt == rt) = true := beq_self_eq_true _
  go_wp2_with fail
  go_ret
  exact ⟨rfl, K6.out⟩

end Go.Proofs.Ytjhmcfhbjfjmkaa
