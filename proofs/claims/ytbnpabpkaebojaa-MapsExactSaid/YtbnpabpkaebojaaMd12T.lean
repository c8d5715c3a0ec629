import Derived.Test.YtbnpabpkaebojaaMc12T
/- Package maps: Get, Set, Clear. -/
set_option linter.unusedVariables false
namespace Go.Proofs.Ytbnpabpkaebojaa
open Go.RowKit

theorem PutN.from12 {w0 V W w' : World} {s room root k v f : Nat} {N : List Nd} {qs : Pairs} {e : Ending} (h : PutN w0 s room root k v f N qs V e w') (hk : KeptIn (· < W.heap.size) W V) : PutN w0 s room root k v f N qs W e w' := by
  obtain ⟨r, er, M, h1, h2, h3, h4⟩ := h
  exact ⟨r, er, M, h1, h2, fr8_trans (fr8_of hk) h3, h4⟩

theorem maGetBad {W : World} (s root : Nat) (x : Int) (hx : ¬ (0 ≤ x ∧ x < 64)) :
    Calls Try.prog 24 #[pgV s, .int .i64 (root : Int), .int .i64 x] W fun e w' => e = .returned (.tuple #[.int .i64 0, .int .i64 1]) ∧ w' = W := by
  have HP := Lib.hid fun W => maIsPI x W
  rw [decide_eq_false hx] at HP
  unfold pgV
  clear hx
  go_enter Try.func24, Try.ntmps24
  go_wp2_with (go_at_call 43; refine (HP.out _).mono ?_; rintro e V ⟨rfl, rfl⟩)
  go_ret2
  exact ⟨rfl, rfl⟩

theorem ma_num {k : Nat} (hk : k < 64) : IntKind.u64.wrap (k : Int) = (k : Int) ∧ (0 : Int) ≤ (k : Int) ∧ (k : Int) < 64 := by
  refine ⟨?_, by omega, by omega⟩
  rw [IntKind.wrap_u64]
  omega
theorem ma_num2 {v : Nat} (h1 : 1 ≤ v) (h2 : v ≤ 1023) : IntKind.u64.wrap (v : Int) = (v : Int) ∧ wrap64 (v : Int) = (v : Int) ∧ (1 : Int) ≤ (v : Int) ∧ (v : Int) ≤ 1023 := by
  refine ⟨?_, ?_, by omega, by omega⟩
  · rw [IntKind.wrap_u64]; omega
  · unfold wrap64; omega

set_option maxHeartbeats 1000000 in
theorem maGet {w0 W : World} {s room root k f c : Nat} {qs : Pairs} (h : TrM w0 s room root qs f c W) (hg : GoodM qs) (hk : k < 64) :
    Calls Try.prog 24 #[pgV s, .int .i64 (root : Int), .int .i64 (k : Int)] W fun e w' => e = .returned (.tuple #[.int .i64 (lookM qs k : Nat), .int .i64 0]) ∧ KeptIn (· < W.heap.size) W w' := by
  have HP := Lib.hid fun W => maIsPI (k : Int) W
  obtain ⟨k1, k2, k3⟩ := ma_num hk
  rw [decide_eq_true (And.intro k2 k3)] at HP
  by_cases hin : ∃ v, (k, v) ∈ qs
  · obtain ⟨v, hv⟩ := hin
    have HG := Lib.hid (tmGet h (by omega) hv)
    rw [lookM_in h.srt hv]
    obtain ⟨-, v1, v2⟩ := hg _ hv
    simp only at v1 v2
    obtain ⟨n1, n2, n3, n4⟩ := ma_num2 v1 v2
    have HN := Lib.hid fun W => maIsNU (v : Int) W
    rw [decide_eq_true (And.intro n3 n4)] at HN
    unfold pgV at HG ⊢
    clear h hg hv v1 v2 n1 hk
    go_enter Try.func24, Try.ntmps24
    go_wp2_with (go_at_call 43; refine (HP.out _).mono ?_; rintro e V ⟨rfl, rfl⟩)
    go_wp2_with fail
    refine HG.out.mono ?_
    rintro e w' ⟨rfl, hk'⟩
    have HK := Lib.hid hk'
    clear hk' HG
    go_wp2_with (go_at_call 49; refine (HN.out _).mono ?_; rintro e V2 ⟨rfl, rfl⟩)
    go_ret2
    exact ⟨rfl, HK.out⟩
  · have hno : ∀ v, (k, v) ∉ qs := fun v hv => hin ⟨v, hv⟩
    have HG := Lib.hid (tmGetNo h (by omega) hno)
    rw [lookM_no hno]
    unfold pgV at HG ⊢
    clear h hg hno hin hk
    go_enter Try.func24, Try.ntmps24
    go_wp2_with (go_at_call 43; refine (HP.out _).mono ?_; rintro e V ⟨rfl, rfl⟩)
    go_wp2_with fail
    refine HG.out.mono ?_
    rintro e w' ⟨rfl, hk'⟩
    have HK := Lib.hid hk'
    clear hk' HG
    go_wp2_with fail
    go_ret2
    exact ⟨rfl, HK.out⟩

set_option maxHeartbeats 1000000 in
theorem maSet {w0 W : World} {s room root k v f : Nat} {N : List Nd} {qs : Pairs} (h : TrN w0 s room root qs f N W) (hf : 8 ≤ f) (hf2 : f < 127) (hk : k < 64) (hv1 : 1 ≤ v) (hv2 : v ≤ 1023) :
    Calls Try.prog 23 #[pgV s, .int .i64 (root : Int), .int .i64 (k : Int), .int .i64 (v : Int)] W (PutN w0 s room root k v f N qs W) := by
  have HP := Lib.hid fun W => maIsPI (k : Int) W
  have HN := Lib.hid fun W => maIsNI (v : Int) W
  obtain ⟨k1, k2, k3⟩ := ma_num hk
  obtain ⟨n1, n2, n3, n4⟩ := ma_num2 hv1 hv2
  rw [decide_eq_true (And.intro k2 k3)] at HP
  rw [decide_eq_true (And.intro n3 n4)] at HN
  have HC := Lib.hid ((tnPut h hf hf2 (show k < 18446744073709551616 by omega) (show v < 18446744073709551616 by omega)).mono fun e w' hR => And.intro (show ∃ r er : Nat, e = .returned (.tuple #[.int .i64 (r : Int), .int .i64 (er : Int)]) by
    obtain ⟨r, er, M, h1, _⟩ := hR
    exact ⟨r, er, h1⟩) hR)
  unfold pgV at HC ⊢
  clear h hf hf2 hk hv1 hv2 n2
  go_enter Try.func23, Try.ntmps23
  go_wp2_with (first
    | (go_at_call 43; refine (HP.out _).mono ?_; rintro e V ⟨rfl, rfl⟩)
    | (go_at_call 47; refine (HN.out _).mono ?_; rintro e V ⟨rfl, rfl⟩))
  go_wp2_with fail
  refine HC.out.mono ?_
  rintro e w' ⟨⟨r, er, rfl⟩, hR⟩
  have HR := Lib.hid hR
  clear hR HC
  go_wp2_with fail
  go_ret2
  exact HR.out

theorem maSetBad {W : World} (s root : Nat) (x y : Int) (hx : ¬ ((0 ≤ x ∧ x < 64) ∧ (1 ≤ y ∧ y ≤ 1023))) :
    Calls Try.prog 23 #[pgV s, .int .i64 (root : Int), .int .i64 x, .int .i64 y] W fun e w' => e = .returned (.tuple #[.int .i64 0, .int .i64 1]) ∧ w' = W := by
  have HP := Lib.hid fun W => maIsPI x W
  have HN := Lib.hid fun W => maIsNI y W
  unfold pgV
  by_cases hp : 0 ≤ x ∧ x < 64
  · rw [decide_eq_true hp] at HP
    rw [decide_eq_false (fun h => hx ⟨hp, h⟩)] at HN
    clear hx hp
    go_enter Try.func23, Try.ntmps23
    go_wp2_with (first
      | (go_at_call 43; refine (HP.out _).mono ?_; rintro e V ⟨rfl, rfl⟩)
      | (go_at_call 47; refine (HN.out _).mono ?_; rintro e V ⟨rfl, rfl⟩))
    go_ret2
    exact ⟨rfl, rfl⟩
  · rw [decide_eq_false hp] at HP
    clear hx hp HN
    go_enter Try.func23, Try.ntmps23
    go_wp2_with (go_at_call 43; refine (HP.out _).mono ?_; rintro e V ⟨rfl, rfl⟩)
    go_ret2
    exact ⟨rfl, rfl⟩

theorem maClearBad {W : World} (s root : Nat) (x : Int) (hx : ¬ (0 ≤ x ∧ x < 64)) :
    Calls Try.prog 19 #[pgV s, .int .i64 (root : Int), .int .i64 x] W fun e w' => e = .returned (.tuple #[.int .i64 0, .int .i64 1]) ∧ w' = W := by
  have HP := Lib.hid fun W => maIsPI x W
  rw [decide_eq_false hx] at HP
  unfold pgV
  clear hx
  go_enter Try.func19, Try.ntmps19
  go_wp2_with (go_at_call 43; refine (HP.out _).mono ?_; rintro e V ⟨rfl, rfl⟩)
  go_ret2
  exact ⟨rfl, rfl⟩

/-- What Clear leaves. -/
def CleN (w0 : World) (s room root k f : Nat) (N : List Nd) (qs : Pairs) (W : World) (e : Ending) (w' : World) : Prop :=
  ∃ (r er : Nat) (M : List Nd), e = .returned (.tuple #[.int .i64 (r : Int), .int .i64 (er : Int)]) ∧ M.length ≤ 5 ∧ Fr8 s W w' ∧ ((er = 6 ∧ r = 0 ∧ TrN w0 s room root qs f (N ++ M) w' ∧ min room 511 ≤ (N ++ M).length) ∨ (er = 0 ∧ TrN w0 s room r (chg [] k qs) f (N ++ M) w'))

set_option maxHeartbeats 1000000 in
theorem maClear {w0 W : World} {s room root k f : Nat} {N : List Nd} {qs : Pairs} (h : TrN w0 s room root qs f N W) (hk : k < 64) :
    Calls Try.prog 19 #[pgV s, .int .i64 (root : Int), .int .i64 (k : Int)] W (CleN w0 s room root k f N qs W) := by
  have HP := Lib.hid fun W => maIsPI (k : Int) W
  obtain ⟨k1, k2, k3⟩ := ma_num hk
  rw [decide_eq_true (And.intro k2 k3)] at HP
  have HC := Lib.hid ((tnDrop h (show k < 18446744073709551616 by omega)).mono fun e w' hR => show ∃ (r er : Nat) (b : Bool), e = .returned (.tuple #[.int .i64 (r : Int), .bool b, .int .i64 (er : Int)]) ∧ CleN w0 s room root k f N qs W (.returned (.tuple #[.int .i64 (r : Int), .int .i64 (er : Int)])) w' by
    obtain ⟨r, er, b, M, h1, h2, h3, h4⟩ := hR
    refine ⟨r, er, b, h1, r, er, M, rfl, h2, h3, ?_⟩
    rcases h4 with ⟨a1, a2, -, a4, a5⟩ | ⟨a1, -, -, a4⟩
    · exact .inl ⟨a1, a2, a4, a5⟩
    · exact .inr ⟨a1, a4⟩)
  unfold pgV at HC ⊢
  clear h hk
  go_enter Try.func19, Try.ntmps19
  go_wp2_with (go_at_call 43; refine (HP.out _).mono ?_; rintro e V ⟨rfl, rfl⟩)
  go_wp2_with fail
  refine HC.out.mono ?_
  rintro e w' ⟨r, er, b, rfl, hR⟩
  have HR := Lib.hid hR
  clear hR HC
  go_wp2_with fail
  go_ret2
  exact HR.out

end Go.Proofs.Ytbnpabpkaebojaa
