/- tiercelaw04.do: Cut, Come, Fuse, Flush, Settle. -/
import Derived.Test.YtbgkfeikfkbfmaaBoth4
import Derived.Test.YtbgkfeikfkbfmaaNums
import Derived.Deep.QuietTactic
import Derived.BigQuiet
set_option linter.unusedVariables false
namespace Go.Proofs.Ytbgkfeikfkbfmaa
open Go.RowKit

/-- They are alike still. -/
def Fine (w : World) (d m s b u N : Nat) (vn vs vl : Value) (W : World) : Prop :=
  ∃ N' p S M, N' ≤ N + 5 ∧ Bth w d m s b u N' vn vs vl p S M (flushed S M) S (looseL S M) W

theorem Bth.fine {w : World} {d m s b u N N' : Nat} {vn vs vl : Value} {p : Pw} {S : List (List UInt8)} {M : Int → Option (List UInt8)} {W : World} (h : Bth w d m s b u N' vn vs vl p S M (flushed S M) S (looseL S M) W) (hN : N' ≤ N + 5) : Fine w d m s b u N vn vs vl W :=
  ⟨N', p, S, M, hN, h⟩

/-- A deed as a value. -/
def actV (k x y : Int) (z : UInt8) (t : List UInt8) : Value := .agg #[.int .i64 k, .int .i64 x, .int .i64 y, .int .u8 (z.toNat : Int), .string ⟨t.toArray⟩]
def doArgs (m d u : Nat) (v : Value) : Array Value := #[.pointer (some ⟨m, 0, none⟩), .pointer (some ⟨d, 0, none⟩), .pointer (some ⟨u, 0, none⟩), v]

section
variable {w : World} {d m s b u N : Nat} {vn vs vl : Value} {p : Pw} {S : List (List UInt8)} {M : Int → Option (List UInt8)} {W : World}

set_option maxHeartbeats 1000000 in
set_option maxRecDepth 100000 in
theorem do5 (h : Bth w d m s b u N vn vs vl p S M (flushed S M) S (looseL S M) W) (x y : Int) (z : UInt8) (t : List UInt8) :
    Calls Try.prog 10 (doArgs m d u (actV 5 x y z t)) W fun e w' => e = .returned (.bool true) ∧ Fine w d m s b u N vn vs vl w' := by
  unfold doArgs actV
  obtain ⟨zz, hz⟩ : ∃ zz : Int, (z.toNat : Int) = zz := ⟨_, rfl⟩
  rw [hz]
  clear hz
  have C := Lib.hid (bCut (h.old ((KeptIn.refl _ W).alloc (fun _ h => h) (.cells #[.int .i64 5, .int .i64 x, .int .i64 y, .int .u8 zz, .string ⟨t.toArray⟩] 31))))
  clear h
  go_enter Try.func10, Try.ntmps10
  go_wp2_with (go_at_call 23; refine C.out.mono ?_)
  rintro e w2 ⟨rfl, h2⟩
  have HF := Lib.hid (h2.fine (Nat.le_add_right _ _))
  clear h2 C
  go_wp2
  go_ret
  exact ⟨rfl, HF.out⟩

set_option maxHeartbeats 1000000 in
set_option maxRecDepth 100000 in
theorem do7 (h : Bth w d m s b u N vn vs vl p S M (flushed S M) S (looseL S M) W) (x y : Int) (z : UInt8) (t : List UInt8) :
    Calls Try.prog 10 (doArgs m d u (actV 7 x y z t)) W fun e w' => e = .returned (.bool true) ∧ Fine w d m s b u N vn vs vl w' := by
  unfold doArgs actV
  obtain ⟨zz, hz⟩ : ∃ zz : Int, (z.toNat : Int) = zz := ⟨_, rfl⟩
  rw [hz]
  clear hz
  have C := Lib.hid (bCome (h.old ((KeptIn.refl _ W).alloc (fun _ h => h) (.cells #[.int .i64 7, .int .i64 x, .int .i64 y, .int .u8 zz, .string ⟨t.toArray⟩] 31))))
  clear h
  go_enter Try.func10, Try.ntmps10
  go_wp2_with (go_at_call 24; refine C.out.mono ?_)
  rintro e w2 ⟨rfl, h2⟩
  have HF := Lib.hid (h2.fine (Nat.le_add_right _ _))
  clear h2 C
  go_wp2
  go_ret
  exact ⟨rfl, HF.out⟩

set_option maxHeartbeats 1000000 in
set_option maxRecDepth 100000 in
theorem do8 (h : Bth w d m s b u N vn vs vl p S M (flushed S M) S (looseL S M) W) (k x y : Int) (z : UInt8) (t : List UInt8) (k1 : ¬ k = 1) (k2 : ¬ k = 2) (k3 : ¬ k = 3) (k4 : ¬ k = 4) (k5 : ¬ k = 5) (k6 : ¬ k = 6) (k7 : ¬ k = 7) :
    Calls Try.prog 10 (doArgs m d u (actV k x y z t)) W fun e w' => e = .returned (.bool true) ∧ Fine w d m s b u N vn vs vl w' := by
  unfold doArgs actV
  obtain ⟨zz, hz⟩ : ∃ zz : Int, (z.toNat : Int) = zz := ⟨_, rfl⟩
  rw [hz]
  clear hz
  have C := Lib.hid fun n hn => (bFuse (h.old ((KeptIn.refl _ W).alloc (fun _ h => h) (.cells #[.int .i64 k, .int .i64 x, .int .i64 y, .int .u8 zz, .string ⟨t.toArray⟩] 31)))) n hn
  clear h
  go_enter Try.func10, Try.ntmps10
  go_wp2_with (go_at_call 31; refine (C.out _ ?_).mono ?_)
  · unfold wrap64; omega
  rintro e w2 ⟨rfl, h2⟩
  have HF := Lib.hid (h2.fine (Nat.le_add_right _ _))
  clear h2 C
  go_wp2
  go_ret
  exact ⟨rfl, HF.out⟩

theorem Bth.fineF {w : World} {d m s b u N N' : Nat} {vn vs vl : Value} {p : Pw} {S : List (List UInt8)} {W : World} (h : Bth w d m s b u N' vn vs vl p S (fun _ => none) S S (List.replicate S.length false) W) (hN : N' ≤ N + 5) : Fine w d m s b u N vn vs vl W :=
  ⟨N', p, S, fun _ => none, hN, by rw [flushed_none, looseL_none]; exact h⟩

theorem use_on (p : Pw) : p.use.on = p.can := by
  cases h : p.can <;> simp [Pw.use, h]

set_option maxHeartbeats 1000000 in
set_option maxRecDepth 100000 in
theorem do4 (h : Bth w d m s b u N vn vs vl p S M (flushed S M) S (looseL S M) W) (x y : Int) (z : UInt8) (t : List UInt8) :
    Calls Try.prog 10 (doArgs m d u (actV 4 x y z t)) W fun e w' => e = .returned (.bool true) ∧ Fine w d m s b u N vn vs vl w' := by
  unfold doArgs actV
  obtain ⟨zz, hz⟩ : ∃ zz : Int, (z.toNat : Int) = zz := ⟨_, rfl⟩
  rw [hz]
  clear hz
  have h' := h.old ((KeptIn.refl _ W).alloc (fun _ h => h) (.cells #[.int .i64 4, .int .i64 x, .int .i64 y, .int .u8 zz, .string ⟨t.toArray⟩] 31))
  clear h
  have hu := use_on p
  cases hc : p.can with
  | true =>
    have C := Lib.hid (bFlushOn h' hc)
    rw [hc] at hu
    generalize p.use = q at C hu
    clear h' hc
    go_enter Try.func10, Try.ntmps10
    go_wp2_with (go_at_call 20; refine C.out.mono ?_)
    rintro e w2 ⟨rfl, h2⟩
    have C2 := Lib.hid (bR4Flush h2)
    clear h2 C
    go_wp2_with (go_at_call 29; refine C2.out.mono ?_)
    rintro e w3 ⟨rfl, h3⟩
    have ho := mOn m _ _ _ _ w3 h3.dv.isP.1
    rw [hu] at ho
    have HO := Lib.hid ho
    have HF := Lib.hid (h3.fineF (N := N) (by omega))
    clear h3 C2 ho
    go_wp2_with (go_at_call 28; refine HO.out.mono ?_; rintro e w4 ⟨rfl, rfl⟩)
    go_ret
    exact ⟨rfl, HF.out⟩
  | false =>
    have C := Lib.hid (bFlushOff h' hc)
    rw [hc] at hu
    generalize p.use = q at C hu
    clear h' hc
    go_enter Try.func10, Try.ntmps10
    go_wp2_with (go_at_call 20; refine C.out.mono ?_)
    rintro e w3 ⟨rfl, h3⟩
    have ho := mOn m _ _ _ _ w3 h3.dv.isP.1
    rw [hu] at ho
    have HO := Lib.hid ho
    have HF := Lib.hid (h3.fine (N := N) (by omega))
    clear h3 C ho
    go_wp2_with (go_at_call 28; refine HO.out.mono ?_; rintro e w4 ⟨rfl, rfl⟩)
    go_ret
    exact ⟨rfl, HF.out⟩

set_option maxHeartbeats 1000000 in
set_option maxRecDepth 100000 in
theorem do6 (h : Bth w d m s b u N vn vs vl p S M (flushed S M) S (looseL S M) W) (x y : Int) (z : UInt8) (t : List UInt8) (ht : t.length ≤ maxLen) :
    Calls Try.prog 10 (doArgs m d u (actV 6 x y z t)) W fun e w' => e = .returned (.bool true) ∧ Fine w d m s b u N vn vs vl w' := by
  unfold doArgs actV
  obtain ⟨zz, hz⟩ : ∃ zz : Int, (z.toNat : Int) = zz := ⟨_, rfl⟩
  rw [hz]
  clear hz
  have h' := h.old ((KeptIn.refl _ W).alloc (fun _ h => h) (.cells #[.int .i64 6, .int .i64 x, .int .i64 y, .int .u8 zz, .string ⟨t.toArray⟩] 31))
  have HR : Hid (∀ W0, KeptIn (fun k => k < (W.alloc (.cells #[.int .i64 6, .int .i64 x, .int .i64 y, .int .u8 zz, .string ⟨t.toArray⟩] 31)).heap.size ∧ k ≠ m ∧ k ≠ s ∧ k ≠ b) (W.alloc (.cells #[.int .i64 6, .int .i64 x, .int .i64 y, .int .u8 zz, .string ⟨t.toArray⟩] 31)) W0 → W0.cell? ⟨W.heap.size, 4, none⟩ = some (.string ⟨t.toArray⟩)) := Lib.hid fun W0 hk => by
    simp [World.cell?, h.fresh h' hk]
  clear h
  have HT := Lib.hid ht
  clear ht
  cases hon : p.on with
  | true =>
    have C := Lib.hid (dSettleOn d m s b N p S M t _ h'.dv.isD h'.dv.isP hon)
    have ho := mOn m _ _ _ _ _ h'.dv.isP.1
    rw [hon] at ho
    have HO := Lib.hid ho
    have HF := Lib.hid (h'.fine (N := N) (by omega))
    clear h' ho
    go_enter Try.func10, Try.ntmps10
    go_wp2_with (go_at_call 21; refine C.out.mono ?_)
    rintro e w3 ⟨rfl, rfl⟩
    go_wp2_with (go_at_call 28; refine HO.out.mono ?_)
    rintro e w4 ⟨rfl, rfl⟩
    go_wp2
    go_ret
    exact ⟨rfl, HF.out⟩
  | false =>
    have C := Lib.hid (bSettle h' hon t HT.out)
    have HON := Lib.hid hon
    clear h' hon
    go_enter Try.func10, Try.ntmps10
    go_wp2_with (go_at_call 21; refine C.out.mono ?_)
    rintro e w3 ⟨rfl, h3, hk3⟩
    have c4 := HR.out w3 hk3
    have ho := mOn m _ _ _ _ w3 h3.dv.isP.1
    rw [HON.out] at ho
    have HO := Lib.hid ho
    clear hk3 HR
    obtain ⟨F, hF⟩ : ∃ F, settle t M (places S.length M) 0 S = F := ⟨_, rfl⟩
    rw [hF] at h3
    have C2 := Lib.hid (bR4Settle h3 t HT.out hF.symm)
    clear h3 hF C ho
    go_wp2_with (go_at_call 28; refine HO.out.mono ?_)
    rintro e w4 ⟨rfl, rfl⟩
    clear HO
    go_wp2_with (go_at_call 30; refine C2.out.mono ?_)
    rintro e w5 ⟨rfl, h5⟩
    have HF := Lib.hid (h5.fineF (N := N) (by omega))
    clear h5 C2
    go_wp2
    go_ret
    exact ⟨rfl, HF.out⟩

end

end Go.Proofs.Ytbgkfeikfkbfmaa
