import Derived.Test.YtbnpabpkaebojaaAp12T
/- Package maps over any contract of the tree's calls: Set, Clear, Trim hand on what the tree leaves. -/
set_option linter.unusedVariables false
namespace Go.Proofs.Ytbnpabpkaebojaa
open Go.RowKit

set_option maxHeartbeats 1000000 in
theorem maSetG {W : World} {s root k v : Nat} {P : Nat → World → Prop} (hk : k < 64) (hv1 : 1 ≤ v) (hv2 : v ≤ 1023) (h : Calls Try.prog 16 #[pgV s, .int .i64 (root : Int), .int .u64 (k : Int), .int .u64 (v : Int)] W fun e w' => ∃ r : Nat, e = .returned (.tuple #[.int .i64 (r : Int), .int .i64 0]) ∧ P r w') :
    Calls Try.prog 23 #[pgV s, .int .i64 (root : Int), .int .i64 (k : Int), .int .i64 (v : Int)] W fun e w' => ∃ r : Nat, e = .returned (.tuple #[.int .i64 (r : Int), .int .i64 0]) ∧ P r w' := by
  have HP := Lib.hid fun W => maIsPI (k : Int) W
  have HN := Lib.hid fun W => maIsNI (v : Int) W
  obtain ⟨k1, k2, k3⟩ := ma_num hk
  obtain ⟨n1, n2, n3, n4⟩ := ma_num2 hv1 hv2
  rw [decide_eq_true (And.intro k2 k3)] at HP
  rw [decide_eq_true (And.intro n3 n4)] at HN
  have HC := Lib.hid h
  unfold pgV at HC ⊢
  clear h hk hv1 hv2 n2
  go_enter Try.func23, Try.ntmps23
  go_wp2_with (first
    | (go_at_call 43; refine (HP.out _).mono ?_; rintro e V ⟨rfl, rfl⟩)
    | (go_at_call 47; refine (HN.out _).mono ?_; rintro e V ⟨rfl, rfl⟩))
  go_wp2_with fail
  refine HC.out.mono ?_
  rintro e w' ⟨r, rfl, hR⟩
  have HR := Lib.hid hR
  clear hR HC
  go_wp2_with fail
  go_ret2
  exact ⟨r, rfl, HR.out⟩

set_option maxHeartbeats 1000000 in
theorem maClearG {W : World} {s root k : Nat} {P : Nat → World → Prop} (hk : k < 64) (h : Calls Try.prog 15 #[pgV s, .int .i64 (root : Int), .int .u64 (k : Int)] W fun e w' => ∃ (r : Nat) (b : Bool), e = .returned (.tuple #[.int .i64 (r : Int), .bool b, .int .i64 0]) ∧ P r w') :
    Calls Try.prog 19 #[pgV s, .int .i64 (root : Int), .int .i64 (k : Int)] W fun e w' => ∃ r : Nat, e = .returned (.tuple #[.int .i64 (r : Int), .int .i64 0]) ∧ P r w' := by
  have HP := Lib.hid fun W => maIsPI (k : Int) W
  obtain ⟨k1, k2, k3⟩ := ma_num hk
  rw [decide_eq_true (And.intro k2 k3)] at HP
  have HC := Lib.hid h
  unfold pgV at HC ⊢
  clear h hk
  go_enter Try.func19, Try.ntmps19
  go_wp2_with (go_at_call 43; refine (HP.out _).mono ?_; rintro e V ⟨rfl, rfl⟩)
  go_wp2_with fail
  refine HC.out.mono ?_
  rintro e w' ⟨r, b, rfl, hR⟩
  have HR := Lib.hid hR
  clear hR HC
  go_wp2_with fail
  go_ret2
  exact ⟨r, rfl, HR.out⟩

/-- What Trim leaves. -/
def TrmG (s root n : Nat) (qs : Pairs) (P : Nat → World → Prop) (W : World) (e : Ending) (w' : World) : Prop :=
  ∃ (r m c : Nat) (a : Option Addr), e = .returned (.tuple #[.int .i64 (r : Int), .slice a m c, .int .i64 0]) ∧ m = (qs.drop n).length ∧ LsE w' s a (esOf (qs.drop n)) ∧ (∀ p, a = some p → W.heap.size ≤ p.block) ∧ P r w'

set_option maxHeartbeats 4000000 in
set_option maxRecDepth 100000 in
theorem maTrimG {w0 W : World} {s room root f : Nat} {N : List Nd} {qs : Pairs} {P : Nat → World → Prop} (h : TrN w0 s room root qs f N W) (hg : GoodM qs) (hl : qs.length ≤ 75) (z : Int) (hz : 0 ≤ z)
    (hP : ∀ r V q, P r V → P r (V.drewN q)) (hall : belowK qs z.toNat = qs.length → ∀ V, KeptIn (· < W.heap.size) W V → P root V)
    (hB : ∀ V a2 c2, KeptIn (· < W.heap.size) W V → ListOk2 V s a2 c2 (qs.take (belowK qs z.toNat)) → rises (qs.take (belowK qs z.toNat)) = true → Calls Try.prog 45 #[pgV s, .slice a2 (qs.take (belowK qs z.toNat)).length c2] V fun e w' => ∃ r : Nat, e = .returned (.tuple #[.int .i64 (r : Int), .int .i64 0]) ∧ Fr8 s V w' ∧ P r w') :
    Calls Try.prog 20 #[pgV s, .int .i64 (root : Int), .int .i64 z] W (TrmG s root (belowK qs z.toNat) qs P W) := by
  have hsrt := h.m.srt
  have hslt := h.slt12
  have HL := Lib.hid ((maList h.m (by omega)).mono fun e w' hR => hR.resolve_right fun h => h.1 hg)
  have HG := Lib.hid (And.intro hg (And.intro hsrt (And.intro hslt hl)))
  obtain ⟨n, hn⟩ : ∃ n, qs.length = n := ⟨_, rfl⟩
  obtain ⟨n1, hn1⟩ : ∃ n1, belowK qs z.toNat = n1 := ⟨_, rfl⟩
  have hn1n : n1 ≤ n := by rw [← hn1, ← hn]; exact below_le _ _
  rw [hn1] at hB hall ⊢
  rw [hn] at hall
  have HN := Lib.hid (And.intro hn hn1)
  have HPP := Lib.hid (And.intro hP (And.intro hall hB))
  unfold pgV at HL ⊢
  clear h hg hsrt hslt hn hn1 hP hall hB
  have hn75 : n ≤ 75 := by have := HG.out.2.2.2; rw [HN.out.1] at this; exact this
  have z1 : ¬ z < 0 := by omega
  clear hl
  go_enter Try.func20, Try.ntmps20
  go_wp2_with fail
  refine HL.out.mono ?_
  rintro e V1 ⟨-, v, rfl, hrow, hk1⟩
  obtain ⟨a, cap, rfl, hc1, hc2⟩ := row_sliceE hrow
  have hes : IsEs V1 a (esOf qs) := row_IsEs (by rw [esOf_length]; exact hrow)
  have hab : ∀ p, a = some p → p.block < V1.heap.size ∧ W.heap.size ≤ p.block := fun p e => by
    rcases hrow.2 with ⟨e1, _⟩ | ⟨g, cap', cur, e1, hgg, hb, _⟩
    · simp only [Value.slice.injEq] at e1
      rw [e1.1] at e
      cases e
    · simp only [Value.slice.injEq] at e1
      rw [e1.1] at e
      cases e
      exact ⟨(Array.getElem?_eq_some_iff.1 hb).1, hgg⟩
  have HV := Lib.hid (And.intro hes (And.intro hab hk1))
  have HBW := Lib.hid (maBelow a cap qs HG.out.2.1 z z.toNat (fun k _ => by omega) HG.out.1 V1 hes (by rw [HN.out.1]; omega))
  rw [HN.out.1] at hc1
  rw [HN.out.1, HN.out.2] at HBW
  rw [HN.out.1]
  clear hrow hes hab hk1 HL
  by_cases hall : n1 = n
  · subst hall
    have HE : Hid (TrmG s root n1 qs P W (.returned (.tuple #[.int .i64 (root : Int), .slice none 0 0, .int .i64 0])) V1) := Lib.hid (by
      have e2 : qs.drop n1 = [] := List.drop_eq_nil_iff.2 (by rw [HN.out.1]; exact Nat.le_refl _)
      refine ⟨root, 0, 0, none, rfl, by rw [e2]; rfl, ?_, (fun p e => by cases e), HPP.out.2.1 rfl V1 HV.out.2.2⟩
      rw [e2]
      exact ⟨IsEs.nil _ _, fun p e => by cases e⟩)
    clear HPP
    go_wp2_with (go_at_call 44; refine HBW.out.mono ?_; rintro e V ⟨rfl, rfl⟩)
    go_ret3
    exact HE.out
  · have hlt : n1 < n := by omega
    have b0 : (0 : Int) ≤ (n1 : Int) := by omega
    have b1 : (n1 : Int) ≤ (n : Int) := by omega
    have b2 : (n1 : Int) ≤ (cap : Int) := by omega
    have b3 : n1 ≤ cap := by omega
    have b4 : ((n1 : Int) == (n : Int)) = false := by rw [beq_eq_false_iff_ne]; omega
    have b5 : ¬ cap = n1 := by omega
    obtain ⟨g, o, rfl, hgb, -⟩ := HV.out.1.cells (by rw [esOf_length, HN.out.1]; omega)
    have htl : (qs.take n1).length = n1 := by rw [List.length_take, HN.out.1]; omega
    have HPR := Lib.hid (maPairs (some ⟨g, o, none⟩) cap (qs.take n1) (HG.out.1.sub fun p hp => List.mem_of_mem_take hp) V1 (by rw [esOf_takeN]; exact esTake HV.out.1 n1) (by omega))
    rw [htl] at HPR
    have HB : Hid (∀ (V : World) (v : Value), KeptIn (· < V1.heap.size) V1 V → V.ownsRow V1.heap.size 77 2 v (qs.take n1).length (cellsP (qs.take n1)) → ∃ a2 c2, v = .slice a2 n1 c2 ∧ Calls Try.prog 45 #[pgV s, .slice a2 n1 c2] V fun e w' => ∃ r : Nat, e = .returned (.tuple #[.int .i64 (r : Int), .int .i64 0]) ∧ Fr8 s V w' ∧ P r w') := Lib.hid fun V v hk hrow => by
      have hfit : Fits (qs.take n1) := fun p hp => by
        have := HG.out.1 p (List.mem_of_mem_take hp)
        omega
      obtain ⟨a2, c2, rfl, hco⟩ := row_slice hrow
      have hps := row_IsPs hrow hfit
      refine ⟨a2, c2, by rw [htl], ?_⟩
      have hlk : ListOk2 V s a2 c2 (qs.take n1) := by
        refine ⟨hps, hco.1, hco.2.1, ?_⟩
        rcases hrow.2 with ⟨e1, h0⟩ | ⟨g2, cap2, cur2, e1, hg2, hb2, _⟩
        · exact ⟨s + 1, 0, by omega, fun h => by omega⟩
        · simp only [Value.slice.injEq] at e1
          refine ⟨g2, 0, ?_, fun _ => e1.1⟩
          have := HV.out.2.2.size
          have := HG.out.2.2.1
          omega
      have := HPP.out.2.2 V a2 c2 (HV.out.2.2.go hk) hlk ((rises_srt _).2 (srt_take HG.out.2.1 n1))
      rw [htl] at this
      exact this
    have HLN := Lib.hid htl
    clear hall hlt htl hc1
    unfold pgV at HB
    go_wp2_with (go_at_call 44; refine HBW.out.mono ?_; rintro e V ⟨rfl, rfl⟩)
    go_wp2_with fail
    refine HPR.out.mono ?_
    rintro e V2 ⟨v2, rfl, hrow2, hk2⟩
    obtain ⟨a2, c2, rfl, HB2⟩ := HB.out V2 v2 hk2 hrow2
    have HBC := Lib.hid HB2
    have HK2 := Lib.hid hk2
    clear hrow2 hk2 HB2 HB HPR HBW
    go_wp2_with fail
    refine HBC.out.mono ?_
    rintro e V3 ⟨r, rfl, hfr, hp3⟩
    have HE : Hid (∀ q : Nat, TrmG s root n1 qs P W (.returned (.tuple #[.int .i64 (r : Int), .slice (some ⟨g, o + n1 * 2, none⟩) (n - n1) (cap - n1), .int .i64 0])) (V3.drewN q)) := Lib.hid fun q => by
      have hgs : s < g := by have := (HV.out.2.1 _ rfl).2; have := HG.out.2.2.1; simp only at *; omega
      have hz2 := HK2.out.size
      have hz3 := hfr.size
      have hes3 : IsEs (V3.drewN q) (some ⟨g, o, none⟩) (esOf qs) := by
        refine (esAt (HV.out.1.old HK2.out) hfr fun p e => ?_).old ((KeptIn.refl _ _).drewN q)
        cases e
        exact ⟨by simp only; omega, by simp only; omega⟩
      refine ⟨r, n - n1, cap - n1, some ⟨g, o + n1 * 2, none⟩, rfl, by rw [List.length_drop, HN.out.1], ⟨?_, fun p e => ?_⟩, fun p e => ?_, HPP.out.1 _ _ _ hp3⟩
      · rw [esOf_dropN]
        exact esDrop hes3 n1
      · cases e
        exact ⟨hgs, by show g < V3.heap.size; omega⟩
      · cases e
        exact (HV.out.2.1 _ rfl).2
    clear hfr hp3 HPP HBC
    go_wp2_with fail
    go_quiet (fail)
    go_wp2_with fail
    go_ret3
    exact HE.out _

end Go.Proofs.Ytbnpabpkaebojaa
