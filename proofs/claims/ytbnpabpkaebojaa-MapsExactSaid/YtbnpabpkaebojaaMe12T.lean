import Derived.Test.YtbnpabpkaebojaaMd12T
/- Package maps: Trim. -/
set_option linter.unusedVariables false
namespace Go.Proofs.Ytbnpabpkaebojaa
open Go.RowKit

theorem esTake {W : World} {a : Option Addr} {es : Ents} (h : IsEs W a es) (i : Nat) : IsEs W a (es.take i) := by
  refine ⟨Nat.le_trans (by rw [List.length_take]; omega) h.len, fun hp => ?_⟩
  rw [List.length_take] at hp
  obtain ⟨b, off, e, hb, hc⟩ := h.cells (by omega)
  refine ⟨b, off, e, hb, fun j hj => ?_⟩
  rw [List.length_take] at hj
  have e2 : atE (es.take i) j = atE es j := by
    unfold atE
    rw [List.getD_eq_getElem?_getD, List.getD_eq_getElem?_getD, List.getElem?_take_of_lt (by omega)]
  rw [e2]
  exact hc j (by omega)
theorem esDrop {W : World} {b off : Nat} {es : Ents} (h : IsEs W (some ⟨b, off, none⟩) es) (i : Nat) : IsEs W (some ⟨b, off + i * 2, none⟩) (es.drop i) := by
  refine ⟨Nat.le_trans (by rw [List.length_drop]; omega) h.len, fun hp => ?_⟩
  rw [List.length_drop] at hp
  obtain ⟨b', off', e, hb, hc⟩ := h.cells (by omega)
  simp only [Option.some.injEq, Addr.mk.injEq, and_true] at e
  obtain ⟨rfl, rfl⟩ := e
  refine ⟨_, _, rfl, hb, fun j hj => ?_⟩
  rw [List.length_drop] at hj
  have e2 : atE (es.drop i) j = atE es (i + j) := by
    unfold atE
    rw [List.getD_eq_getElem?_getD, List.getD_eq_getElem?_getD, List.getElem?_drop]
  rw [e2]
  have := hc (i + j) (by omega)
  rw [Nat.add_mul, ← Nat.add_assoc] at this
  exact this
theorem esOf_takeN (qs : Pairs) (i : Nat) : esOf (qs.take i) = (esOf qs).take i := by simp [esOf, List.map_take]
theorem esOf_dropN (qs : Pairs) (i : Nat) : esOf (qs.drop i) = (esOf qs).drop i := by simp [esOf, List.map_drop]
theorem IsEs.nil (W : World) (a : Option Addr) : IsEs W a [] := ⟨Nat.zero_le _, fun h => absurd h (by simp)⟩
theorem below_le (qs : Pairs) (z : Nat) : belowK qs z ≤ qs.length := List.countP_le_length

theorem maTrimBad {W : World} (s root : Nat) (x : Int) (hx : x < 0) :
    Calls Try.prog 20 #[pgV s, .int .i64 (root : Int), .int .i64 x] W fun e w' => e = .returned (.tuple #[.int .i64 0, .slice none 0 0, .int .i64 1]) ∧ w' = W := by
  unfold pgV
  go_enter Try.func20, Try.ntmps20
  go_wp2_with fail
  go_ret3
  exact ⟨rfl, rfl⟩

/-- What Trim leaves. -/
def TrmS (w0 : World) (s room n f : Nat) (N : List Nd) (qs : Pairs) (W : World) (e : Ending) (w' : World) : Prop :=
  ∃ (r m c : Nat) (M : List Nd) (a : Option Addr), e = .returned (.tuple #[.int .i64 (r : Int), .slice a m c, .int .i64 0]) ∧ m = (qs.drop n).length ∧ M.length ≤ 6 ∧ Fr8 s W w' ∧ TrN w0 s room r (qs.take n) f (N ++ M) w' ∧ IsEs w' a (esOf (qs.drop n)) ∧ (∀ p, a = some p → p.block < w'.heap.size ∧ s < p.block)

theorem TrN.mono {w0 W : World} {s room root f f' : Nat} {qs : Pairs} {N : List Nd} (h : TrN w0 s room root qs f N W) (hf : f ≤ f') : TrN w0 s room root qs f' N W := by
  obtain ⟨D, h1, h2, h3⟩ := h
  exact ⟨D, h1, h2.mono hf, h3⟩
theorem TrN.slt12 {w3 W : World} {s room root f : Nat} {qs : Pairs} {N : List Nd} (h : TrN w3 s room root qs f N W) : s < W.heap.size := by
  obtain ⟨D, h1, _⟩ := h
  exact h1.lt s h1.ds

set_option maxHeartbeats 4000000 in
set_option maxRecDepth 100000 in
theorem maTrim {w0 W : World} {s room root f : Nat} {N : List Nd} {qs : Pairs} (h : TrN w0 s room root qs f N W) (hg : GoodM qs) (hl : qs.length ≤ 75) (hqf : qs.length + 8 ≤ f) (hroom : N.length + 6 ≤ min room 511) (z : Int) (hz : 0 ≤ z) :
    Calls Try.prog 20 #[pgV s, .int .i64 (root : Int), .int .i64 z] W (TrmS w0 s room (belowK qs z.toNat) f N qs W) := by
  have hsrt := h.m.srt
  have hslt := h.slt12
  have HL := Lib.hid ((maList h.m (by omega)).mono fun e w' hR => hR.resolve_right fun h => h.1 hg)
  have HT := Lib.hid h
  have HG := Lib.hid (And.intro hg (And.intro hsrt (And.intro hslt (And.intro hl hqf))))
  obtain ⟨n, hn⟩ : ∃ n, qs.length = n := ⟨_, rfl⟩
  obtain ⟨n1, hn1⟩ : ∃ n1, belowK qs z.toNat = n1 := ⟨_, rfl⟩
  have hn1n : n1 ≤ n := by rw [← hn1, ← hn]; exact below_le _ _
  have HN := Lib.hid (And.intro hn hn1)
  have HRM := Lib.hid hroom
  rw [hn1]
  unfold pgV at HL ⊢
  clear h hg hsrt hslt hroom hn hn1
  have hn75 : n ≤ 75 := by have := HG.out.2.2.2.1; rw [HN.out.1] at this; exact this
  have z1 : ¬ z < 0 := by omega
  clear hl hqf
  go_enter Try.func20, Try.ntmps20
  go_wp2_with fail
  refine HL.out.mono ?_
  rintro e V1 ⟨-, v, rfl, hrow, hk1⟩
  obtain ⟨a, cap, rfl, hc1, hc2⟩ := row_sliceE hrow
  have hes : IsEs V1 a (esOf qs) := row_IsEs (by rw [esOf_length]; exact hrow)
  have hab : ∀ p, a = some p → p.block < V1.heap.size ∧ W.heap.size ≤ p.block := fun p e => by
    rcases hrow.2 with ⟨e1, _⟩ | ⟨g, cap', cur, e1, hgg, hb, _⟩
    · simp only [Value.slice.injEq] at e1
      rw [e1.1] at e
      cases e
    · simp only [Value.slice.injEq] at e1
      rw [e1.1] at e
      cases e
      exact ⟨(Array.getElem?_eq_some_iff.1 hb).1, hgg⟩
  have HV := Lib.hid (And.intro hes (And.intro hab hk1))
  have HBW := Lib.hid (maBelow a cap qs HG.out.2.1 z z.toNat (fun k _ => by omega) HG.out.1 V1 hes (by rw [HN.out.1]; omega))
  rw [HN.out.1] at hc1
  rw [HN.out.1, HN.out.2] at HBW
  rw [HN.out.1]
  clear hrow hes hab hk1 HL
  by_cases hall : n1 = n
  · subst hall
    have HE : Hid (TrmS w0 s room n1 f N qs W (.returned (.tuple #[.int .i64 (root : Int), .slice none 0 0, .int .i64 0])) V1) := Lib.hid (by
      have e1 : qs.take n1 = qs := List.take_of_length_le (by rw [HN.out.1]; exact Nat.le_refl _)
      have e2 : qs.drop n1 = [] := List.drop_eq_nil_iff.2 (by rw [HN.out.1]; exact Nat.le_refl _)
      refine ⟨root, 0, 0, [], none, rfl, by rw [e2]; rfl, by simp, fr8_of HV.out.2.2, ?_, ?_, fun p e => by cases e⟩
      · rw [e1, List.append_nil]; exact HT.out.old HV.out.2.2
      · rw [e2]; exact IsEs.nil _ _)
    clear HT
    go_wp2_with (go_at_call 44; refine HBW.out.mono ?_; rintro e V ⟨rfl, rfl⟩)
    go_ret3
    exact HE.out
  · have hlt : n1 < n := by omega
    have b0 : (0 : Int) ≤ (n1 : Int) := by omega
    have b1 : (n1 : Int) ≤ (n : Int) := by omega
    have b2 : (n1 : Int) ≤ (cap : Int) := by omega
    have b3 : n1 ≤ cap := by omega
    have b4 : ((n1 : Int) == (n : Int)) = false := by rw [beq_eq_false_iff_ne]; omega
    have b5 : ¬ cap = n1 := by omega
    obtain ⟨g, o, rfl, hgb, -⟩ := HV.out.1.cells (by rw [esOf_length, HN.out.1]; omega)
    have htl : (qs.take n1).length = n1 := by rw [List.length_take, HN.out.1]; omega
    have HPR := Lib.hid (maPairs (some ⟨g, o, none⟩) cap (qs.take n1) (HG.out.1.sub fun p hp => List.mem_of_mem_take hp) V1 (by rw [esOf_takeN]; exact esTake HV.out.1 n1) (by omega))
    rw [htl] at HPR
    have HB : Hid (∀ (V : World) (v : Value), KeptIn (· < V1.heap.size) V1 V → V.ownsRow V1.heap.size 77 2 v (qs.take n1).length (cellsP (qs.take n1)) → ∃ a2 c2, v = .slice a2 n1 c2 ∧ Calls Try.prog 45 #[pgV s, .slice a2 n1 c2] V fun e w' => ∃ (r : Nat) (M : List Nd), e = .returned (.tuple #[.int .i64 (r : Int), .int .i64 0]) ∧ M.length ≤ 6 ∧ Fr8 s V w' ∧ TrN w0 s room r (qs.take n1) ((qs.take n1).length + 8) (N ++ M) w') := Lib.hid fun V v hk hrow => by
      have hfit : Fits (qs.take n1) := fun p hp => by
        have := HG.out.1 p (List.mem_of_mem_take hp)
        omega
      obtain ⟨a2, c2, rfl, hco⟩ := row_slice hrow
      have hps := row_IsPs hrow hfit
      refine ⟨a2, c2, by rw [htl], ?_⟩
      have hlk : ListOk2 V s a2 c2 (qs.take n1) := by
        refine ⟨hps, hco.1, hco.2.1, ?_⟩
        rcases hrow.2 with ⟨e1, h0⟩ | ⟨g2, cap2, cur2, e1, hg2, hb2, _⟩
        · exact ⟨s + 1, 0, by omega, fun h => by omega⟩
        · simp only [Value.slice.injEq] at e1
          refine ⟨g2, 0, ?_, fun _ => e1.1⟩
          have := HV.out.2.2.size
          have := HG.out.2.2.1
          omega
      have := tnBuild ((HT.out.old HV.out.2.2).old hk) c2 a2 (qs.take n1) hlk (by omega) ((rises_srt _).2 (srt_take HG.out.2.1 n1)) HRM.out
      rw [htl] at this ⊢
      exact this
    have HLN := Lib.hid htl
    clear hall hlt htl hc1
    unfold pgV at HB
    go_wp2_with (go_at_call 44; refine HBW.out.mono ?_; rintro e V ⟨rfl, rfl⟩)
    go_wp2_with fail
    refine HPR.out.mono ?_
    rintro e V2 ⟨v2, rfl, hrow2, hk2⟩
    obtain ⟨a2, c2, rfl, HB2⟩ := HB.out V2 v2 hk2 hrow2
    have HBC := Lib.hid HB2
    have HK2 := Lib.hid hk2
    clear hrow2 hk2 HB2 HB HPR HBW
    go_wp2_with fail
    refine HBC.out.mono ?_
    rintro e V3 ⟨r, M, rfl, hM, hfr, ht⟩
    have HE : Hid (∀ q : Nat, TrmS w0 s room n1 f N qs W (.returned (.tuple #[.int .i64 (r : Int), .slice (some ⟨g, o + n1 * 2, none⟩) (n - n1) (cap - n1), .int .i64 0])) (V3.drewN q)) := Lib.hid fun q => by
      have hgs : s < g := by have := (HV.out.2.1 _ rfl).2; have := HG.out.2.2.1; simp only at *; omega
      have hz2 := HK2.out.size
      have hz3 := hfr.size
      have hes3 : IsEs (V3.drewN q) (some ⟨g, o, none⟩) (esOf qs) := by
        refine (esAt (HV.out.1.old HK2.out) hfr fun p e => ?_).old ((KeptIn.refl _ _).drewN q)
        cases e
        exact ⟨by simp only; omega, by simp only; omega⟩
      refine ⟨r, n - n1, cap - n1, M, some ⟨g, o + n1 * 2, none⟩, rfl, by rw [List.length_drop, HN.out.1], hM, (fr8_trans (fr8_of (HV.out.2.2.go HK2.out)) hfr).drewN q, ?_, ?_, fun p e => ?_⟩
      · refine (ht.mono ?_).old ((KeptIn.refl _ _).drewN q)
        have := HG.out.2.2.2.2
        rw [HN.out.1] at this
        rw [HLN.out]
        omega
      · rw [esOf_dropN]
        exact esDrop hes3 n1
      · cases e
        exact ⟨by show g < V3.heap.size; omega, hgs⟩
    clear ht hfr hM HT HBC
    go_wp2_with fail
    go_quiet (fail)
    go_wp2_with fail
    go_ret3
    exact HE.out _

end Go.Proofs.Ytbnpabpkaebojaa
