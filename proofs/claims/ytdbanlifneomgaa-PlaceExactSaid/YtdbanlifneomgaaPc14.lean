/- Places: the place of a pair. -/
import Derived.Test.YtdbanlifneomgaaPb14
set_option linter.unusedVariables false
namespace Go.Proofs.Ytdbanlifneomgaa
open Go.RowKit

/-- What a pair says: the program's way. -/
def decL (k x : Nat) : Pla := ⟨wrap64 (((k + 18446744065119617024) % 18446744073709551616 : Nat) : Int), ((x % 256 : Nat) : Int), ((x / 256 : Nat) : Int)⟩
/-- The document's way. -/
def decM (k x : Nat) : Pla := ⟨((k % 4294967296 : Nat) : Int), ((x % 256 : Nat) : Int), ((x / 256 % 1024 : Nat) : Int)⟩
def IsPl (k x : Nat) (v : Pla) : Prop := GoodP v ∧ keyP v = k ∧ valP v = x
instance (k x : Nat) (v : Pla) : Decidable (IsPl k x v) := by unfold IsPl; infer_instance
/-- The place of a pair, if there is one. -/
def readPl (k x : Nat) : Option Pla := if IsPl k x (decL k x) then some (decL k x) else none

theorem decL_of {k x : Nat} {v : Pla} (h : IsPl k x v) : decL k x = v ∧ decM k x = v := by
  obtain ⟨hg, rfl, rfl⟩ := h
  obtain ⟨a, b, c, hv, ha1, ha, hb, hc⟩ := goodP_nats hg
  subst hv
  have hk : keyP ⟨(a : Int), (b : Int), (c : Int)⟩ = 8589934592 + a := by unfold keyP; simp only; omega
  have hx : valP ⟨(a : Int), (b : Int), (c : Int)⟩ = b + c * 256 := by unfold valP; simp only; omega
  rw [hk, hx]
  have h1 : (8589934592 + a) % 4294967296 = a := by omega
  have h2 : (b + c * 256) % 256 = b := by omega
  have h3 : (b + c * 256) / 256 = c := by omega
  have h4 : c % 1024 = c := by omega
  have h5 : (8589934592 + a + 18446744065119617024) % 18446744073709551616 = a := by omega
  have h6 : wrap64 (a : Int) = (a : Int) := by unfold wrap64; omega
  unfold decL decM
  rw [h1, h2, h3, h4, h5, h6]
  exact ⟨rfl, rfl⟩

theorem readPl_of {k x : Nat} {v : Pla} (h : IsPl k x v) : readPl k x = some v := by
  unfold readPl
  rw [(decL_of h).1, if_pos h]
theorem readPl_iff {k x : Nat} {v : Pla} : readPl k x = some v ↔ IsPl k x v := by
  refine ⟨fun h => ?_, readPl_of⟩
  unfold readPl at h
  split at h
  · rename_i hi
    cases h
    exact hi
  · cases h
theorem readPl_pair {v : Pla} (h : GoodP v) : readPl (keyP v) (valP v) = some v := readPl_of ⟨h, rfl, rfl⟩
theorem readPl_no {k x : Nat} (h : ¬ IsPl k x (decL k x)) : readPl k x = none := by
  unfold readPl
  rw [if_neg h]
theorem readPl_no' {k x : Nat} (h : ¬ IsPl k x (decM k x)) : readPl k x = none := by
  cases hr : readPl k x with
  | none => rfl
  | some v =>
    have hi := readPl_iff.1 hr
    rw [(decL_of hi).2] at h
    exact absurd hi h

def pla0 : Pla := ⟨0, 0, 0⟩
def ReadP (w : World) (o : Option Pla) (e : Ending) (w' : World) : Prop :=
  e = .returned (.tuple #[plaV (o.getD pla0), .bool o.isSome]) ∧ KeptIn (· < w.heap.size) w w'
def ReadM (w : World) (o : Option Pla) (e : Ending) (w' : World) : Prop :=
  e = .returned (.tuple #[.int .i64 (o.getD pla0).ch, spotV (o.getD pla0).tier (o.getD pla0).slot, .bool o.isSome]) ∧ KeptIn (· < w.heap.size) w w'
theorem results_spot3 {fn : Func} {p u v : Tmp} (h : fn.results = #[.tmp u, .cell p 45, .tmp v]) (tmps : Array Value) (w : World) (y : Nat) (t s : Int)
    (hp : tmps.getD p undef = .pointer (some ⟨y, 0, none⟩)) (hb : BoxSp y t s w) : (results fn tmps).run Try.prog w = .ok (.tuple #[tmps.getD u undef, spotV t s, tmps.getD v undef]) w := by
  have hr := run_loadVar_row (P := Try.prog) w y 45 45 _ _ _ hb Try.underlying45 rfl (by kernel_rfl)
  have hp' : tmps[p]?.getD undef = .pointer (some ⟨y, 0, none⟩) := by simpa using hp
  simp [results, h, hp', asAddr, hr, spotV]

/-- The three boxes of Read. -/
theorem plr_boxes (w : World) (k x : Nat) (v : Pla) : ∀ V, KeptIn (· < (((w.alloc (.cells #[.int .u64 (k : Int), .int .u64 (x : Int)] 50)).alloc (.cells #[.int .i64 0, .int .i64 0, .int .i64 0] 47)).alloc (.cells #[.int .i64 v.ch, .int .i64 v.tier, .int .i64 v.slot] 47)).heap.size) (((w.alloc (.cells #[.int .u64 (k : Int), .int .u64 (x : Int)] 50)).alloc (.cells #[.int .i64 0, .int .i64 0, .int .i64 0] 47)).alloc (.cells #[.int .i64 v.ch, .int .i64 v.tier, .int .i64 v.slot] 47)) V →
    BoxP w.heap.size k x V ∧ BoxPl (w.heap.size + 1) pla0 V ∧ BoxPl (w.heap.size + 1 + 1) v V ∧ KeptIn (· < w.heap.size) w V ∧ w.heap.size + 1 + 1 + 1 ≤ V.heap.size := by
  intro V hk
  have h1 := BoxP.new w k x
  obtain ⟨W1, hW1⟩ : ∃ W1, w.alloc (.cells #[.int .u64 (k : Int), .int .u64 (x : Int)] 50) = W1 := ⟨_, rfl⟩
  have hk1 : KeptIn (· < w.heap.size) w W1 := by rw [← hW1]; exact (KeptIn.refl _ w).alloc (fun _ h => h) _
  have hs1 : W1.heap.size = w.heap.size + 1 := by rw [← hW1]; simp
  rw [hW1] at h1 hk
  have h2 : BoxPl W1.heap.size pla0 (W1.alloc (.cells #[.int .i64 0, .int .i64 0, .int .i64 0] 47)) := BoxPl.new W1 pla0
  obtain ⟨W2, hW2⟩ : ∃ W2, W1.alloc (.cells #[.int .i64 0, .int .i64 0, .int .i64 0] 47) = W2 := ⟨_, rfl⟩
  have hk2 : KeptIn (· < W1.heap.size) W1 W2 := by rw [← hW2]; exact (KeptIn.refl _ W1).alloc (fun _ h => h) _
  have hs2 : W2.heap.size = w.heap.size + 1 + 1 := by rw [← hW2, World.size_alloc, hs1]
  rw [hW2] at h2 hk
  have h3 := BoxPl.new W2 v
  obtain ⟨W3, hW3⟩ : ∃ W3, W2.alloc (.cells #[.int .i64 v.ch, .int .i64 v.tier, .int .i64 v.slot] 47) = W3 := ⟨_, rfl⟩
  have hk3 : KeptIn (· < W2.heap.size) W2 W3 := by rw [← hW3]; exact (KeptIn.refl _ W2).alloc (fun _ h => h) _
  have hs3 : W3.heap.size = w.heap.size + 1 + 1 + 1 := by rw [← hW3, World.size_alloc, hs2]
  rw [hW3] at h3 hk
  have k3 := hk3.go hk
  have k2 := hk2.go k3
  rw [hs2] at h3
  rw [hs1] at h2
  exact ⟨h1.kept k2 h1.lt, h2.kept k3 h2.lt, h3.kept hk h3.lt, hk1.go k2, by rw [← hs3]; exact hk.size⟩

theorem decL_nats (k x : Nat) (hk : k < 18446744073709551616) (hx : x < 18446744073709551616) : ∃ (y b c : Nat) (ch : Int), decL k x = ⟨ch, (b : Int), (c : Int)⟩ ∧
    IntKind.u64.wrap ((k : Int) - 8589934592) = (y : Int) ∧ wrap64 (y : Int) = ch ∧ (x : Int) % 256 = (b : Int) ∧ (x : Int) / 256 = (c : Int) ∧ (b : Int) ≤ 255 ∧ (c : Int) ≤ 72057594037927935 := by
  refine ⟨(k + 18446744065119617024) % 18446744073709551616, x % 256, x / 256, _, rfl, ?_, rfl, by omega, by omega, by omega, by omega⟩
  rw [IntKind.wrap_u64]
  omega


set_option maxHeartbeats 1000000 in
theorem plRead (k x : Nat) (hk : k < 18446744073709551616) (hx : x < 18446744073709551616) (w : World) : Calls Try.prog 14 #[pairV (k, x)] w (ReadP w (readPl k x)) := by
  unfold pairV ReadP
  simp only
  obtain ⟨y, b, c, ch, hdp, e1, e2, e3, e4, l1, l2⟩ := decL_nats k x hk hx
  have HB := Lib.hid (plr_boxes w k x ⟨ch, (b : Int), (c : Int)⟩)
  have HP := Lib.hid fun W => plPair ⟨ch, (b : Int), (c : Int)⟩ W
  unfold plaV PairP at HP
  simp only at HP HB
  by_cases hi : IsPl k x ⟨ch, (b : Int), (c : Int)⟩
  · rw [readPl_of hi]
    have hg := hi.1
    have hkk := hi.2.1
    have hxx := hi.2.2
    rw [if_pos hg, hkk, hxx] at HP
    clear hi hg hkk hxx hdp
    unfold pairV at HP
    simp only [Option.getD_some, Option.isSome_some]
    go_enter Try.func14, Try.ntmps14
    go_wp2_with (go_at_call 12; refine (HP.out _).mono ?_; rintro e V ⟨rfl, hk9⟩; obtain ⟨b1, b2, b3, b4, b5⟩ := HB.out (V.alloc (.cells #[.int .u64 k, .int .u64 x] 50)) (hk9.alloc (fun _ h => h) _); have y0 := b1.c0; have y1 := b1.c1; have z0 := b3.c0; have z1 := b3.c1; have z2 := b3.c2; have q0 := b2.c0; have q1 := b2.c1; have q2 := b2.c2; have r0 := b2.fr 0; have r1 := b2.fr 1; have r2 := b2.fr 2; have HBB := Lib.hid (And.intro b1 (And.intro b2 (And.intro b3 (And.intro b4 b5)))); clear b1 b2 b3 b4 b5 hk9)
    refine bodyPost_ret (results_pla_tmp rfl _ _ (w.heap.size + 1) _ rfl (HBB.out.2.1.set ⟨ch, (b : Int), (c : Int)⟩)) rfl ?_
    exact ⟨rfl, ((HBB.out.2.2.2.1.setCell (p := ⟨w.heap.size + 1, 0, none⟩) (by simp) _).setCell (p := ⟨w.heap.size + 1, 1, none⟩) (by simp) _).setCell (p := ⟨w.heap.size + 1, 2, none⟩) (by simp) _⟩
  · rw [readPl_no (by rw [hdp]; exact hi)]
    simp only [Option.getD_none, Option.isSome_none]
    by_cases hg : GoodP ⟨ch, (b : Int), (c : Int)⟩
    · rw [if_pos hg] at HP
      obtain ⟨K, hK⟩ : ∃ K, keyP ⟨ch, (b : Int), (c : Int)⟩ = K := ⟨_, rfl⟩
      obtain ⟨X, hX⟩ : ∃ X, valP ⟨ch, (b : Int), (c : Int)⟩ = X := ⟨_, rfl⟩
      rw [hK, hX] at HP
      have hne : ¬ (K = k ∧ X = x) := fun h => hi ⟨hg, hK.trans h.1, hX.trans h.2⟩
      unfold pairV at HP
      clear hi hg hdp hK hX
      by_cases hKk : K = k
      · subst hKk
        have hXx : ¬ X = x := fun h => hne ⟨rfl, h⟩
        have n1 : ((X : Int) == (x : Int)) = false := by rw [beq_eq_false_iff_ne]; omega
        have n2 : (X == x) = false := by rw [beq_eq_false_iff_ne]; exact hXx
        have n3 : ¬ (X : Int) = (x : Int) := by omega
        clear hne
        go_enter Try.func14, Try.ntmps14
        go_wp2_with (go_at_call 12; refine (HP.out _).mono ?_; rintro e V ⟨rfl, hk9⟩; obtain ⟨b1, b2, b3, b4, b5⟩ := HB.out (V.alloc (.cells #[.int .u64 K, .int .u64 X] 50)) (hk9.alloc (fun _ h => h) _); have y0 := b1.c0; have y1 := b1.c1; have z0 := b3.c0; have z1 := b3.c1; have z2 := b3.c2; have q0 := b2.c0; have q1 := b2.c1; have q2 := b2.c2; have r0 := b2.fr 0; have r1 := b2.fr 1; have r2 := b2.fr 2; have HBB := Lib.hid (And.intro b1 (And.intro b2 (And.intro b3 (And.intro b4 b5)))); clear b1 b2 b3 b4 b5 hk9)
        refine bodyPost_ret (results_pla_tmp rfl _ _ (w.heap.size + 1) _ rfl (HBB.out.2.1.set pla0)) rfl ?_
        exact ⟨rfl, ((HBB.out.2.2.2.1.setCell (p := ⟨w.heap.size + 1, 0, none⟩) (by simp) _).setCell (p := ⟨w.heap.size + 1, 1, none⟩) (by simp) _).setCell (p := ⟨w.heap.size + 1, 2, none⟩) (by simp) _⟩
      · have n1 : ((K : Int) == (k : Int)) = false := by rw [beq_eq_false_iff_ne]; omega
        have n2 : (K == k) = false := by rw [beq_eq_false_iff_ne]; exact hKk
        have n3 : ¬ (K : Int) = (k : Int) := by omega
        clear hne
        go_enter Try.func14, Try.ntmps14
        go_wp2_with (go_at_call 12; refine (HP.out _).mono ?_; rintro e V ⟨rfl, hk9⟩; obtain ⟨b1, b2, b3, b4, b5⟩ := HB.out (V.alloc (.cells #[.int .u64 K, .int .u64 X] 50)) (hk9.alloc (fun _ h => h) _); have y0 := b1.c0; have y1 := b1.c1; have z0 := b3.c0; have z1 := b3.c1; have z2 := b3.c2; have q0 := b2.c0; have q1 := b2.c1; have q2 := b2.c2; have r0 := b2.fr 0; have r1 := b2.fr 1; have r2 := b2.fr 2; have HBB := Lib.hid (And.intro b1 (And.intro b2 (And.intro b3 (And.intro b4 b5)))); clear b1 b2 b3 b4 b5 hk9)
        refine bodyPost_ret (results_pla_tmp rfl _ _ (w.heap.size + 1) _ rfl (HBB.out.2.1.set pla0)) rfl ?_
        exact ⟨rfl, ((HBB.out.2.2.2.1.setCell (p := ⟨w.heap.size + 1, 0, none⟩) (by simp) _).setCell (p := ⟨w.heap.size + 1, 1, none⟩) (by simp) _).setCell (p := ⟨w.heap.size + 1, 2, none⟩) (by simp) _⟩
    · rw [if_neg hg] at HP
      unfold pairV at HP
      clear hi hg hdp
      go_enter Try.func14, Try.ntmps14
      go_wp2_with (go_at_call 12; refine (HP.out _).mono ?_; rintro e V ⟨rfl, hk9⟩; obtain ⟨b1, b2, b3, b4, b5⟩ := HB.out (V.alloc (.cells #[.int .u64 0, .int .u64 0] 50)) (hk9.alloc (fun _ h => h) _); have y0 := b1.c0; have y1 := b1.c1; have z0 := b3.c0; have z1 := b3.c1; have z2 := b3.c2; have q0 := b2.c0; have q1 := b2.c1; have q2 := b2.c2; have r0 := b2.fr 0; have r1 := b2.fr 1; have r2 := b2.fr 2; have HBB := Lib.hid (And.intro b1 (And.intro b2 (And.intro b3 (And.intro b4 b5)))); clear b1 b2 b3 b4 b5 hk9)
      refine bodyPost_ret (results_pla_tmp rfl _ _ (w.heap.size + 1) _ rfl (HBB.out.2.1.set pla0)) rfl ?_
      exact ⟨rfl, ((HBB.out.2.2.2.1.setCell (p := ⟨w.heap.size + 1, 0, none⟩) (by simp) _).setCell (p := ⟨w.heap.size + 1, 1, none⟩) (by simp) _).setCell (p := ⟨w.heap.size + 1, 2, none⟩) (by simp) _⟩

end Go.Proofs.Ytdbanlifneomgaa
