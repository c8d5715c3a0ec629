import Derived.Test.YtdbanlifneomgaaPm14Q
/- Layer 14: Put, Drop of places. -/
set_option linter.unusedVariables false
namespace Go.Proofs.Ytdbanlifneomgaa
open Go.RowKit

theorem goodP_keys {v : Pla} (h : GoodP v) : keyP v < 18446744073709551616 ∧ valP v < 18446744073709551616 ∧ 8589934592 + 1 ≤ keyP v ∧ keyP v ≤ 8589934592 + 1023 ∧ ((keyP v : Nat) : Int) = 8589934592 + v.ch := by
  obtain ⟨a, b, c, hv, ha1, ha, hb, hc⟩ := goodP_nats h
  subst hv
  have h1 := (pla_num a b c).1
  have h2 := (pla_num a b c).2
  exact ⟨by omega, by omega, by omega, by omega, h1⟩
theorem PutN.from14 {w0 V W w' : World} {s room root k v f : Nat} {N : List Nd} {qs : Pairs} {e : Ending} (h : PutN w0 s room root k v f N qs V e w') (hk : KeptIn (· < W.heap.size) W V) : PutN w0 s room root k v f N qs W e w' := by
  obtain ⟨r, er, M, h1, h2, h3, h4⟩ := h
  exact ⟨r, er, M, h1, h2, fr8_trans (fr8_of hk) h3, h4⟩
theorem DrpN.from14 {w0 V W w' : World} {s room root k f : Nat} {N : List Nd} {qs : Pairs} {e : Ending} (h : DrpN w0 s room root k f N qs V e w') (hk : KeptIn (· < W.heap.size) W V) : DrpN w0 s room root k f N qs W e w' := by
  obtain ⟨r, er, b, M, h1, h2, h3, h4⟩ := h
  exact ⟨r, er, b, M, h1, h2, fr8_trans (fr8_of hk) h3, h4⟩


theorem pn_start (w : World) (v : Pla) : BoxPl w.heap.size v (w.alloc (.cells #[.int .i64 v.ch, .int .i64 v.tier, .int .i64 v.slot] 47)) ∧ KeptIn (· < w.heap.size) w (w.alloc (.cells #[.int .i64 v.ch, .int .i64 v.tier, .int .i64 v.slot] 47)) :=
  ⟨BoxPl.new w v, (KeptIn.refl _ w).alloc (fun _ h => h) _⟩
theorem TrN.kw14 {w3 W : World} {s room root f : Nat} {qs : Pairs} {N : List Nd} (h : TrN w3 s room root qs f N W) : KeptIn (· < w3.heap.size) w3 W := by
  obtain ⟨D, h1, h2, h3, h4, h5⟩ := h
  exact h5
theorem TrN.srt14 {w3 W : World} {s room root f : Nat} {qs : Pairs} {N : List Nd} (h : TrN w3 s room root qs f N W) : Srt qs := by
  obtain ⟨D, h1, h2, h3, h4, h5⟩ := h
  exact h2.srt
theorem TrN.slt14 {w3 W : World} {s room root f : Nat} {qs : Pairs} {N : List Nd} (h : TrN w3 s room root qs f N W) : s < W.heap.size := by
  obtain ⟨D, h1, _⟩ := h
  exact h1.lt s h1.ds
theorem TrN.mono14 {w3 W : World} {s room root f f' : Nat} {qs : Pairs} {N : List Nd} (h : TrN w3 s room root qs f N W) (hf : f ≤ f') : TrN w3 s room root qs f' N W := by
  obtain ⟨D, h1, h2, h3⟩ := h
  exact ⟨D, h1, h2.mono hf, h3⟩
theorem tn_new14 (w : World) (room : Nat) (hr : room ≤ 1000000) (W : World) (hW : W = w.alloc (.cells #[.slice none 0 0, .int .i64 (room : Int)] 30)) : TrN w w.heap.size room 0 [] 8 [] W :=
  ⟨_, (tm_new w room hr W hW).1, TrI.zero, by simp, fun k hk => Nat.le_of_eq hk.symm, by rw [hW]; exact (KeptIn.refl _ w).alloc (fun _ h => h) _⟩
theorem drop_keys14 (ch : Int) : ∃ k : Nat, IntKind.u64.wrap (8589934592 + ch) = (k : Int) ∧ IntKind.u64.wrap (8589934592 + IntKind.u64.wrap ch) = (k : Int) ∧ k < 18446744073709551616 := by
  have h : IntKind.u64.wrap (8589934592 + ch) = (8589934592 + ch) % 18446744073709551616 := IntKind.wrap_u64 _
  have h2 : IntKind.u64.wrap (8589934592 + IntKind.u64.wrap ch) = (8589934592 + ch) % 18446744073709551616 := by
    simp only [IntKind.wrap_u64]
    omega
  refine ⟨((8589934592 + ch) % 18446744073709551616).toNat, ?_, ?_, by omega⟩
  · rw [h]; omega
  · rw [h2]; omega

set_option maxHeartbeats 1000000 in
theorem plPut {w0 W : World} {s room root f : Nat} {N : List Nd} {qs : Pairs} {v : Pla} (hg : GoodP v) (h : TrN w0 s room root qs f N W) (hf : 8 ≤ f) (hf2 : f < 127) :
    Calls Try.prog 19 #[pgV s, .int .i64 (root : Int), plaV v] W (PutN w0 s room root (keyP v) (valP v) f N qs W) := by
  obtain ⟨k1, k2, -⟩ := goodP_keys hg
  have HP := Lib.hid fun V => plPair v V
  have HC := Lib.hid fun V (hk : KeptIn (· < W.heap.size) W V) => (tnPut (h.old hk) hf hf2 k1 k2).mono fun e w' hR => And.intro (show ∃ r er : Nat, e = .returned (.tuple #[.int .i64 (r : Int), .int .i64 (er : Int)]) by
    obtain ⟨r, er, M, h1, _⟩ := hR
    exact ⟨r, er, h1⟩) (hR.from14 hk)
  unfold PairP at HP
  rw [if_pos hg] at HP
  obtain ⟨K, hK⟩ : ∃ K, keyP v = K := ⟨_, rfl⟩
  obtain ⟨X, hX⟩ : ∃ X, valP v = X := ⟨_, rfl⟩
  rw [hK, hX] at HP HC ⊢
  clear h hf hf2 hg hK hX k1 k2
  obtain ⟨ch, tier, slot⟩ := v
  have HS := Lib.hid (pn_start W ⟨ch, tier, slot⟩)
  unfold plaV pairV at HP
  unfold plaV pgV
  unfold pgV at HC
  simp only at HP HS ⊢
  go_enter Try.func19, Try.ntmps19
  go_wp2_with fail
  refine (HP.out _).mono ?_
  rintro e V ⟨rfl, hk⟩
  have HC2 := Lib.hid (HC.out (V.alloc (.cells #[.int .u64 (K : Int), .int .u64 (X : Int)] 50)) ((HS.out.2.go hk).alloc (fun _ h => h) _))
  clear hk HC
  go_wp2_with fail
  refine HC2.out.mono ?_
  rintro e w' ⟨⟨r, er, rfl⟩, hR⟩
  have HR := Lib.hid hR
  clear hR
  go_wp2_with fail
  go_ret2
  exact HR.out

set_option maxHeartbeats 1000000 in
theorem plPutBad {W : World} {s root : Nat} {v : Pla} (hg : ¬ GoodP v) :
    Calls Try.prog 19 #[pgV s, .int .i64 (root : Int), plaV v] W fun e w' => e = .returned (.tuple #[.int .i64 0, .int .i64 1]) ∧ KeptIn (· < W.heap.size) W w' := by
  have HP := Lib.hid fun V => plPair v V
  unfold PairP at HP
  rw [if_neg hg] at HP
  clear hg
  obtain ⟨ch, tier, slot⟩ := v
  have HS := Lib.hid (pn_start W ⟨ch, tier, slot⟩)
  unfold plaV pairV at HP
  unfold plaV pgV
  simp only at HP HS ⊢
  go_enter Try.func19, Try.ntmps19
  go_wp2_with fail
  refine (HP.out _).mono ?_
  rintro e V ⟨rfl, hk⟩
  have HK := Lib.hid ((HS.out.2.go hk).alloc (fun _ h => h) (.cells #[.int .u64 0, .int .u64 0] 50))
  clear hk
  go_wp2_with fail
  go_ret2
  exact ⟨rfl, HK.out⟩

set_option maxHeartbeats 1000000 in
theorem plDrop {w0 W : World} {s room root f k : Nat} {N : List Nd} {qs : Pairs} {ch : Int} (hk : IntKind.u64.wrap (8589934592 + ch) = (k : Int)) (hk2 : k < 18446744073709551616) (h : TrN w0 s room root qs f N W) :
    Calls Try.prog 21 #[pgV s, .int .i64 (root : Int), .int .i64 ch] W (DrpN w0 s room root k f N qs W) := by
  have HK := Lib.hid fun V => plKey ch V
  rw [hk] at HK
  have HC := Lib.hid ((tnDrop h hk2).mono fun e w' hR => And.intro (show ∃ (r er : Nat) (b : Bool), e = .returned (.tuple #[.int .i64 (r : Int), .bool b, .int .i64 (er : Int)]) by
    obtain ⟨r, er, b, M, h1, _⟩ := hR
    exact ⟨r, er, b, h1⟩) hR)
  clear h hk hk2
  unfold pgV at HC ⊢
  go_enter Try.func21, Try.ntmps21
  go_wp2_with fail
  refine (HK.out _).mono ?_
  rintro e V ⟨rfl, rfl⟩
  go_wp2_with fail
  refine HC.out.mono ?_
  rintro e w' ⟨⟨r, er, b, rfl⟩, hR⟩
  have HR := Lib.hid hR
  clear hR
  go_wp2_with fail
  go_ret3
  exact HR.out

end Go.Proofs.Ytdbanlifneomgaa
