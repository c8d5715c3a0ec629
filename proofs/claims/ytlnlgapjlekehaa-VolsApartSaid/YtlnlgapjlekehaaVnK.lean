import Derived.Test.YtlnlgapjlekehaaVmK
/- Layer 11: Put, Drop of volumes. -/
set_option linter.unusedVariables false
namespace Go.Proofs.Ytlnlgapjlekehaa
open Go.RowKit

theorem good_keys {v : Vol} (h : GoodV v) : keyV v < 18446744073709551616 ∧ valV v < 18446744073709551616 ∧ keyV v / 4294967296 = 1 ∧ 4294967296 + 1 ≤ keyV v ∧ keyV v ≤ 4294967296 + 16 ∧ ((keyV v : Nat) : Int) = 4294967296 + v.id := by
  obtain ⟨a, b, c, d, hv, ha1, ha, hb, hc, hd⟩ := good_nats h
  obtain ⟨pin, hpin⟩ : ∃ pin, v.pin = pin := ⟨_, rfl⟩
  rw [hpin] at hv
  subst hv
  have h1 := (pair_num a b c d pin).1
  have h2 := (pair_num a b c d pin).2
  refine ⟨by omega, ?_, by omega, by omega, by omega, h1⟩
  split at h2 <;> omega

theorem PutN.from {w0 V W w' : World} {s room root k v f : Nat} {N : List Nd} {qs : Pairs} {e : Ending} (h : PutN w0 s room root k v f N qs V e w') (hk : KeptIn (· < W.heap.size) W V) : PutN w0 s room root k v f N qs W e w' := by
  obtain ⟨r, er, M, h1, h2, h3, h4⟩ := h
  exact ⟨r, er, M, h1, h2, fr8_trans (fr8_of hk) h3, h4⟩
theorem DrpN.from {w0 V W w' : World} {s room root k f : Nat} {N : List Nd} {qs : Pairs} {e : Ending} (h : DrpN w0 s room root k f N qs V e w') (hk : KeptIn (· < W.heap.size) W V) : DrpN w0 s room root k f N qs W e w' := by
  obtain ⟨r, er, b, M, h1, h2, h3, h4⟩ := h
  exact ⟨r, er, b, M, h1, h2, fr8_trans (fr8_of hk) h3, h4⟩

theorem vn_start (w : World) (v : Vol) : BoxV w.heap.size v (w.alloc (.cells #[.int .i64 v.id, .int .i64 v.size, .int .i64 v.root, .bool v.pin, .int .i64 v.frm] 60)) ∧ KeptIn (· < w.heap.size) w (w.alloc (.cells #[.int .i64 v.id, .int .i64 v.size, .int .i64 v.root, .bool v.pin, .int .i64 v.frm] 60)) :=
  ⟨BoxV.new w v, (KeptIn.refl _ w).alloc (fun _ h => h) _⟩

set_option maxHeartbeats 1000000 in
theorem vsPut {w0 W : World} {s room root f : Nat} {N : List Nd} {qs : Pairs} {v : Vol} (hg : GoodV v) (h : TrN w0 s room root qs f N W) (hf : 8 ≤ f) (hf2 : f < 127) :
    Calls Try.prog 27 #[pgV s, .int .i64 (root : Int), volV v] W (PutN w0 s room root (keyV v) (valV v) f N qs W) := by
  obtain ⟨k1, k2, -⟩ := good_keys hg
  have HP := Lib.hid fun V => vsPair v V
  have HC := Lib.hid fun V (hk : KeptIn (· < W.heap.size) W V) => (tnPut (h.old hk) hf hf2 k1 k2).mono fun e w' hR => And.intro (show ∃ r er : Nat, e = .returned (.tuple #[.int .i64 (r : Int), .int .i64 (er : Int)]) by
    obtain ⟨r, er, M, h1, _⟩ := hR
    exact ⟨r, er, h1⟩) (hR.from hk)
  unfold PairS at HP
  rw [if_pos hg] at HP
  obtain ⟨K, hK⟩ : ∃ K, keyV v = K := ⟨_, rfl⟩
  obtain ⟨X, hX⟩ : ∃ X, valV v = X := ⟨_, rfl⟩
  rw [hK, hX] at HP HC ⊢
  clear h hf hf2 hg hK hX k1 k2
  obtain ⟨id, size, rt, pin, frm⟩ := v
  have HS := Lib.hid (vn_start W ⟨id, size, rt, pin, frm⟩)
  unfold volV pairV at HP
  unfold volV pgV
  unfold pgV at HC
  simp only at HP HS ⊢
  go_enter Try.func27, Try.ntmps27
  go_wp2_with fail
  refine (HP.out _).mono ?_
  rintro e V ⟨rfl, hk⟩
  have HC2 := Lib.hid (HC.out (V.alloc (.cells #[.int .u64 (K : Int), .int .u64 (X : Int)] 38)) ((HS.out.2.go hk).alloc (fun _ h => h) _))
  clear hk HC
  go_wp2_with fail
  refine HC2.out.mono ?_
  rintro e w' ⟨⟨r, er, rfl⟩, hR⟩
  have HR := Lib.hid hR
  clear hR
  go_wp2_with fail
  go_ret2
  exact HR.out

set_option maxHeartbeats 1000000 in
theorem vsPutBad {W : World} {s root : Nat} {v : Vol} (hg : ¬ GoodV v) :
    Calls Try.prog 27 #[pgV s, .int .i64 (root : Int), volV v] W fun e w' => e = .returned (.tuple #[.int .i64 0, .int .i64 1]) ∧ KeptIn (· < W.heap.size) W w' := by
  have HP := Lib.hid fun V => vsPair v V
  unfold PairS at HP
  rw [if_neg hg] at HP
  clear hg
  obtain ⟨id, size, rt, pin, frm⟩ := v
  have HS := Lib.hid (vn_start W ⟨id, size, rt, pin, frm⟩)
  unfold volV pairV at HP
  unfold volV pgV
  simp only at HP HS ⊢
  go_enter Try.func27, Try.ntmps27
  go_wp2_with fail
  refine (HP.out _).mono ?_
  rintro e V ⟨rfl, hk⟩
  have HK := Lib.hid ((HS.out.2.go hk).alloc (fun _ h => h) (.cells #[.int .u64 0, .int .u64 0] 38))
  clear hk
  go_wp2_with fail
  go_ret2
  exact ⟨rfl, HK.out⟩

set_option maxHeartbeats 1000000 in
theorem vsDrop {w0 W : World} {s room root f k : Nat} {N : List Nd} {qs : Pairs} {id : Int} (hk : IntKind.u64.wrap (4294967296 + id) = (k : Int)) (hk2 : k < 18446744073709551616) (h : TrN w0 s room root qs f N W) :
    Calls Try.prog 28 #[pgV s, .int .i64 (root : Int), .int .i64 id] W (DrpN w0 s room root k f N qs W) := by
  have HK := Lib.hid fun V => vsKey id V
  rw [hk] at HK
  have HC := Lib.hid ((tnDrop h hk2).mono fun e w' hR => And.intro (show ∃ (r er : Nat) (b : Bool), e = .returned (.tuple #[.int .i64 (r : Int), .bool b, .int .i64 (er : Int)]) by
    obtain ⟨r, er, b, M, h1, _⟩ := hR
    exact ⟨r, er, b, h1⟩) hR)
  clear h hk hk2
  unfold pgV at HC ⊢
  go_enter Try.func28, Try.ntmps28
  go_wp2_with fail
  refine (HK.out _).mono ?_
  rintro e V ⟨rfl, rfl⟩
  go_wp2_with fail
  refine HC.out.mono ?_
  rintro e w' ⟨⟨r, er, b, rfl⟩, hR⟩
  have HR := Lib.hid hR
  clear hR
  go_wp2_with fail
  go_ret3
  exact HR.out

end Go.Proofs.Ytlnlgapjlekehaa
